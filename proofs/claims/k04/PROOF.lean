import PyProof.Rows.All
import Wide.All
import OpenK.AllK
import Wide.FinOn
import KE.KStateDown
import HandS.ForMost
import HandS.ForExc
import HandS.Defaults
import HandS.Evl
import HandS.Walk
import HandS.More
import HandS.Zip
import HandS.IsInst
import HandS.Codes
import HandS.CallLocal
import HandS.Wide
import HandS.HeadHook2
import HandS.HeadHook3
import HandS.HeadHook4
import HandS.ExcInit
import HandS.ExcField
import HandS.ExcIs
import KE.KExcIs
import HandS.Strs
import HandS.SetBool
import HandS.SetKeys
import HandS.TupAny
import HandS.ExcOwn
import HandS.Text
import PyProof.StrOps2
import PyProof.EqKinds
import HandS.DictComp
import KE.KDictDisplayH
import PySem.Challenge.RW_everyanswer_k04_paths_are_the_ascending
import HandS.Head0
import HandS.Head1
import HandS.Head2
import HandS.Style
import HandS.WordsExc
import HandS.OwnEq
import OpenK.KOps
import OpenK.KMeth
import HandS.Deep
import HandS.HeadEnd
/-! ## KB -/
set_option Elab.async false
set_option linter.all false
set_option maxRecDepth 100000
set_option maxHeartbeats 4000000
namespace KB
open PySem PySem.Spec PyProof.Rows L2 Evl
/-! data as trees -/
inductive Th where
  | non | bl (b : Bool) | int (i : Int) | str (x : Str) | lst (ts : List Th) | tup (ts : List Th) | dic
mutual
inductive Rep (K : PySem.W.Frag) (H : Hp) : V → Th → Prop
  | non : Rep K H .non .non
  | bl (b : Bool) : Rep K H (.bl b) (.bl b)
  | int (i : Int) : Rep K H (.int i) (.int i)
  | str (x : Str) : Rep K H (.str x) (.str x)
  | lst {a : Addr} {vs : List V} {ts : List Th} : H a = some (.lst vs) → Reps K H vs ts → Rep K H (.ref a) (.lst ts)
  | tup {a : Addr} {vs : List V} {ts : List Th} : SqT K H a vs → Reps K H vs ts → Rep K H (.ref a) (.tup ts)
  | dic {a : Addr} {kvs : List (Key × V)} : H a = some (.dK kvs) → Rep K H (.ref a) .dic
inductive Reps (K : PySem.W.Frag) (H : Hp) : List V → List Th → Prop
  | nil : Reps K H [] []
  | cons {v : V} {vs : List V} {t : Th} {ts : List Th} : Rep K H v t → Reps K H vs ts → Reps K H (v :: vs) (t :: ts)
end
section
variable {K : PySem.W.Frag} {H H' : Hp}
mutual
theorem Rep.mono (e : Ex H H') : ∀ {v : V} {t : Th}, Rep K H v t → Rep K H' v t
  | _, _, .non => .non
  | _, _, .bl b => .bl b
  | _, _, .int i => .int i
  | _, _, .str x => .str x
  | _, _, .lst h r => .lst (e _ _ h) (Reps.mono e r)
  | _, _, .tup h r => .tup (ex_t e h) (Reps.mono e r)
  | _, _, .dic h => .dic (e _ _ h)
theorem Reps.mono (e : Ex H H') : ∀ {vs : List V} {ts : List Th}, Reps K H vs ts → Reps K H' vs ts
  | _, _, .nil => .nil
  | _, _, .cons h r => .cons (Rep.mono e h) (Reps.mono e r)
end
theorem Reps.length : ∀ {vs : List V} {ts : List Th}, Reps K H vs ts → vs.length = ts.length
  | _, _, .nil => rfl
  | _, _, .cons _ r => by rw [List.length_cons, List.length_cons, Reps.length r]
theorem Reps.get : ∀ {vs : List V} {ts : List Th} {i : Nat} {v : V}, Reps K H vs ts → vs[i]? = some v → ∃ t, ts[i]? = some t ∧ Rep K H v t
  | _, _, _, _, .nil, e => by simp at e
  | _, _, 0, _, .cons h _, e => by
    simp at e
    subst e
    exact ⟨_, by simp, h⟩
  | _, _, i + 1, v, .cons _ r, e => by
    obtain ⟨t, h1, h2⟩ := Reps.get (i := i) (v := v) r (by simpa using e)
    exact ⟨t, by simpa using h1, h2⟩
theorem Reps.get' : ∀ {vs : List V} {ts : List Th} {i : Nat} {t : Th}, Reps K H vs ts → ts[i]? = some t → ∃ v, vs[i]? = some v ∧ Rep K H v t
  | _, _, _, _, .nil, e => by simp at e
  | _, _, 0, _, .cons h _, e => by
    simp at e
    subst e
    exact ⟨_, by simp, h⟩
  | _, _, i + 1, t, .cons _ r, e => by
    obtain ⟨v, h1, h2⟩ := Reps.get' (i := i) (t := t) r (by simpa using e)
    exact ⟨v, by simpa using h1, h2⟩
theorem Reps.drop : ∀ {vs : List V} {ts : List Th} (n : Nat), Reps K H vs ts → Reps K H (vs.drop n) (ts.drop n)
  | _, _, 0, r => r
  | _, _, _ + 1, .nil => .nil
  | _, _, n + 1, .cons _ r => Reps.drop n r
theorem Reps.take : ∀ {vs : List V} {ts : List Th} (n : Nat), Reps K H vs ts → Reps K H (vs.take n) (ts.take n)
  | _, _, 0, _ => .nil
  | _, _, _ + 1, .nil => .nil
  | _, _, n + 1, .cons h r => .cons h (Reps.take n r)
theorem Reps.append : ∀ {vs vs' : List V} {ts ts' : List Th}, Reps K H vs ts → Reps K H vs' ts' → Reps K H (vs ++ vs') (ts ++ ts')
  | _, _, _, _, .nil, r => r
  | _, _, _, _, .cons h r, r' => .cons h (Reps.append r r')
def Th.ty : Th → String
  | .non => "NoneType"
  | .bl _ => "bool"
  | .int _ => "int"
  | .str _ => "str"
  | .lst _ => "list"
  | .tup _ => "tuple"
  | .dic => "dict"
theorem tyx_l {a : Addr} {vs : List V} (h : SqL K H a vs) : TyX K H (.ref a) (.type "list") := by
  rcases h with (h | ⟨o, h⟩) | ⟨o, its, n, h1, h2, _⟩
  · exact .base (.lst h)
  · exact .base (.frz h)
  · exact .kList h1 h2
theorem tyx_t {a : Addr} {vs : List V} (h : SqT K H a vs) : TyX K H (.ref a) (.type "tuple") := by
  rcases h with (h | ⟨o, h⟩) | ⟨o, its, n, h1, h2, _⟩
  · exact .base (.tup h)
  · exact .fTuple h
  · exact .kTuple h1 h2
theorem Rep.tyx {v : V} {t : Th} (h : Rep K H v t) : TyX K H v (.type t.ty) := by
  cases h with
  | non => exact .base .non
  | bl b => exact .base (.bl b)
  | int i => exact .base (.int i)
  | str x => exact .base (.str x)
  | lst h _ => exact tyx_l (sq_of h)
  | tup h _ => exact tyx_t h
  | dic h => exact .base (.dK h)
end
/-! isinstance -/
def isB (T : String) (t : Th) : Bool := (kitB t.ty T).getD false
theorem kit_th (T : String) (hT : ∀ s ∈ ["NoneType", "bool", "int", "str", "list", "tuple", "dict"], (kitB s T).isSome = true) (t : Th) : kitB t.ty T = some (isB T t) := by
  have h := hT t.ty (by cases t <;> simp [Th.ty])
  unfold isB
  cases e : kitB t.ty T with
  | none =>
    rw [e] at h
    cases h
  | some b => rfl
section
variable {K : PySem.W.Frag} {σ : L2.St} {H H' : Hp} {ta tb te tx : TE} {t u : TT} {x y z v : V}
theorem ev_isi {T : String} {d : Th} (hT : ∀ s ∈ ["NoneType", "bool", "int", "str", "list", "tuple", "dict"], (kitB s T).isSome = true) (h : Ev ta σ H v) (r : Rep K H v d) :
    Ev (tCB (rIsi K) (tCons ta (tCons (tC (.ty T)) tNil))) σ H (.bl (isB T d)) :=
  ev_cb (ea_cons h (ea_cons ev_c ea_nil)) fun H1 e Q q => ⟨v, .ty T, _, _, _, rfl, .ty T, (r.mono e).tyx, kit_ty (kit_th T hT d), q H1 (Ex.refl H1)⟩
/-! a comprehension over anything that is walked -/
def EvI (wi : TI) (σ : L2.St) (H : Hp) (J : It) : Prop := ∀ H1, Ex H H1 → ∀ R : It → Hp → Prop, (∀ H2, Ex H1 H2 → R J H2) → wi σ H1 R
theorem el_lcW {wi : TI} {J : It} {n : Nat} {G : Hp → Prop} {Y : Nat → Hp → V → Hp → Prop} {g : TG} {vs : List Nat} (ys : List V) (hi : EvI wi σ H J) (w : Walk J n G Y) (hG : ∀ H', Ex H H' → G H') (hn : ys.length = n) (hz : n ≤ 50000)
    (ht : ∀ i x y H1 H2, Ex H H1 → Y i H1 x H2 → ys[i]? = some y → Ex H1 H2 ∧ ∀ Qc : L2.St → Hp → Prop, (∀ σ2 H3, wipe σ2 vs = wipe σ vs → Ex H2 H3 → Ev te σ2 H3 y → Qc σ2 H3) → g x (wipe σ vs) H2 Qc) :
    EvL (tLc wi g tYes te vs) σ H ys := fun H0 e Q q => hi H0 e _ fun H1 e1 Dl hD => by
  refine lc_it w (fun i H' => Ex H1 H' ∧ H' Dl = some (.lst (ys.take i))) ⟨Ex.new hD, by rw [upd_same]; simp⟩ (fun i H' _ p => hG H' ((e.trans e1).trans p.1)) ?_ (fun H' p => ?_)
  · intro i x H2 H3 hlt ⟨p1, p2⟩ hy
    obtain ⟨y, hy'⟩ : ∃ y, ys[i]? = some y := ⟨ys[i]'(by omega), by simp⟩
    obtain ⟨e3, k⟩ := ht i x y H2 H3 ((e.trans e1).trans p1) hy hy'
    refine k _ fun σ2 H4 hw e4 hev => ⟨hw, ?_⟩
    show te σ2 H4 _
    refine hev H4 (Ex.refl H4) _ fun H5 e5 => ⟨ys.take i, e5 _ _ (e4 _ _ (e3 _ _ p2)), sz_lt (by rw [List.length_take]; omega), ?_, ?_⟩
    · exact Ex.mut (((p1.trans e3).trans e4).trans e5) hD
    · rw [upd_same, List.take_add_one, hy']
      rfl
  · refine q Dl H' (fresh_back e1 hD) (e1.trans p.1) ?_
    rw [p.2, ← hn, List.take_length]
theorem ei_list {tl : TE} {a : Addr} {xs : List V} (h : Ev tl σ H (.ref a)) (hx : SqL K H a xs) : EvI (iList K tl) σ H (Itl K a) := fun H1 e R q =>
  h H1 e _ fun H2 e2 => ⟨a, rfl, ⟨xs, ex_l (e.trans e2) hx⟩, q H2 e2⟩
theorem ei_tup {tl : TE} {a : Addr} {xs : List V} (h : Ev tl σ H (.ref a)) (hx : SqT K H a xs) : EvI (iTup K tl) σ H (Itt K a) := fun H1 e R q =>
  h H1 e _ fun H2 e2 => ⟨a, rfl, ⟨xs, ex_t (e.trans e2) hx⟩, q H2 e2⟩
theorem ei_str {tl : TE} {s : Str} (h : Ev tl σ H (.str s)) : EvI (iStr tl) σ H (Its s) := fun H1 e R q =>
  h H1 e _ fun H2 e2 => ⟨s, rfl, q H2 e2⟩
/-- [te for x in tuple or list] with a name as the target -/
theorem el_compL {tl : TE} {a : Addr} {xs ys : List V} {j : Nat} {vs : List Nat} (h : Ev tl σ H (.ref a)) (hx : SqL K H a xs) (hl : ys.length = xs.length) (hz : xs.length ≤ 50000) (hw : ∀ x, wipe ((wipe σ vs).set j (some x)) vs = wipe σ vs)
    (he : ∀ (i : Nat) (x y : V) (H1 : Hp), Ex H H1 → xs[i]? = some x → ys[i]? = some y → Ev te ((wipe σ vs).set j (some x)) H1 y) : EvL (tLc (iList K tl) (gName j) tYes te vs) σ H ys :=
  el_lcW ys (ei_list h hx) walk_list (fun H' e => ex_l e hx) hl hz fun i x y H1 H2 e hy hy' => by
    obtain ⟨rfl, hx'⟩ := hy
    exact ⟨Ex.refl _, fun Qc k => k _ _ (hw x) (Ex.refl _) (he i x y H2 e hx' hy')⟩
theorem el_compT {tl : TE} {a : Addr} {xs ys : List V} {j : Nat} {vs : List Nat} (h : Ev tl σ H (.ref a)) (hx : SqT K H a xs) (hl : ys.length = xs.length) (hz : xs.length ≤ 50000) (hw : ∀ x, wipe ((wipe σ vs).set j (some x)) vs = wipe σ vs)
    (he : ∀ (i : Nat) (x y : V) (H1 : Hp), Ex H H1 → xs[i]? = some x → ys[i]? = some y → Ev te ((wipe σ vs).set j (some x)) H1 y) : EvL (tLc (iTup K tl) (gName j) tYes te vs) σ H ys :=
  el_lcW ys (ei_tup h hx) walk_tup (fun H' e => ex_t e hx) hl hz fun i x y H1 H2 e hy hy' => by
    obtain ⟨rfl, hx'⟩ := hy
    exact ⟨Ex.refl _, fun Qc k => k _ _ (hw x) (Ex.refl _) (he i x y H2 e hx' hy')⟩
theorem el_compS {tl : TE} {s : Str} {ys : List V} {j : Nat} {vs : List Nat} (h : Ev tl σ H (.str s)) (hl : ys.length = s.cps.size) (hz : s.cps.size ≤ 50000) (hw : ∀ x, wipe ((wipe σ vs).set j (some x)) vs = wipe σ vs)
    (he : ∀ (i : Nat) (c : Nat) y H1, Ex H H1 → s.cps[i]? = some c → ys[i]? = some y → Ev te ((wipe σ vs).set j (some (.str ⟨#[c]⟩))) H1 y) : EvL (tLc (iStr tl) (gName j) tYes te vs) σ H ys :=
  el_lcW ys (ei_str h) walk_str (fun _ _ => True.intro) hl hz fun i x y H1 H2 e hy hy' => by
    obtain ⟨rfl, c, hc, rfl⟩ := hy
    exact ⟨Ex.refl _, fun Qc k => k _ _ (hw _) (Ex.refl _) (he i c y H2 e hc hy')⟩
theorem ev_all {bs : List Bool} (h : EvL te σ H (bs.map V.bl)) : Ev (tCB (rAll K) (tCons te tNil)) σ H (.bl (bs.all id)) := fun H1 e Q q =>
  h H1 e _ fun p H2 _ e2 hp => ⟨p, bs, rfl, sq_of hp, q H2 e2⟩
theorem ev_any {bs : List Bool} (h : EvL te σ H (bs.map V.bl)) : Ev (tCB (rAny K) (tCons te tNil)) σ H (.bl (bs.any id)) := fun H1 e Q q =>
  h H1 e _ fun p H2 _ e2 hp => ⟨p, bs, rfl, sq_of hp, q H2 e2⟩
/-! lengths -/
theorem ev_lenL {a : Addr} {xs : List V} (h : Ev ta σ H (.ref a)) (hx : SqL K H a xs) : Ev (tCB (rLenS K) (tCons ta tNil)) σ H (.int xs.length) := ev_cb (ea_cons h ea_nil) fun H1 e Q q => ⟨a, xs, rfl, Or.inl (ex_l e hx), q H1 (Ex.refl H1)⟩
theorem ev_lenT {a : Addr} {xs : List V} (h : Ev ta σ H (.ref a)) (hx : SqT K H a xs) : Ev (tCB (rLenS K) (tCons ta tNil)) σ H (.int xs.length) := ev_cb (ea_cons h ea_nil) fun H1 e Q q => ⟨a, xs, rfl, Or.inr (ex_t e hx), q H1 (Ex.refl H1)⟩
/-! a promise: a value that depends on the arguments alone -/
def Pu (R : List V → Hp → V → Prop) : Sp := fun vs H Q _ => ∃ v, R vs H v ∧ RetV v H Q
theorem ev_pu {R : List V → Hp → V → Prop} {vs : List V} {E : XK} {t : TA} (h : EvA t σ H vs) (r : ∀ H1, Ex H H1 → R vs H1 v) : Ev (tCall (Pu R) [] E t) σ H v :=
  ev_call h fun H1 e Q q E => ⟨v, by rw [List.append_nil]; exact r H1 e, fun H2 e2 => q H2 e2⟩
end
/-! D.get(e) of a written dict -/
def RelG : Option Value → V → Prop
  | none, v => v = .non
  | some u, v => RelV v u
def tKGet (K : PySem.W.Frag) (d : Addr) (td ty : TE) : TE := fun σ H Q => td σ H fun x H1 => x = .ref d ∧ ty σ H1 fun y H2 => ∃ z r v, y = .str z ∧ PySem.W.nsIn K d z = some r ∧ RelG r v ∧ Q v H2
section
variable {X : Cx} {d : Addr} {es : Array DictEntry} {n : Nat} {o e : Expr} {apos cpos : Pos} {td ty : TE}
theorem pe_kget (D : KDict X.K X.w d es n) (ho : PE X o td) (he : PE X e ty) (m : M1 X o "get" apos e cpos) : PE X (.Call (.Attribute o "get" apos) [e] [] cpos) (tKGet X.K d td ty) := by
  refine ⟨fun pins s σ H Q I h => ?_⟩
  refine wpAny_Call_method m.base m.few m.line PySem.F.plainAttrs_dict PySem.F.slot_dict_get PySem.F.type_dict_get (thn (ho.run pins s σ H _ I h) fun u s1 ⟨x, H1, I1, rx, ex, q1⟩ => ?_)
  subst ex
  obtain rfl : u = Value.ref d := rx
  refine ⟨kd_type D I1, fun b q => ?_, ?_⟩
  · cases q
    exact ⟨_, I1.kIn _ _ D.at_, rfl⟩
  rw [m.trees]
  refine Calls.callWith_builtin rfl (Calls.evalArgs_plain (Calls.spliced_cons (thn (he.run pins s1 σ H1 _ I1 q1) fun iv s2 ⟨y, H2, I2, ry, z, r, v, ey, hr, hv, q2⟩ => Calls.spliced_nil ?_)))
  subst ey
  obtain ⟨t, rfl⟩ := ry
  refine call_meetsIn PySem.F.slot_dict_get (kd_type D I2) PySem.F.entry_dict_get (PySem.F.args_dict_get_2 _ _) (meets_dict_get (strKind X.prog X.w) d (PySem.strKind_is X.prog X.w z t) D.low) ⟨_, PySem.W.mapOf_K (prog := X.prog) I2.kIn D.at_ D.lit, ?_⟩
  rw [PySem.W.find_K D.at_ hr]
  cases r with
  | none =>
    have e1 : v = .non := hv
    subst e1
    exact ⟨.non, H2, I2.tok _, rfl, q2⟩
  | some u => exact ⟨v, H2, I2.tok _, hv, q2⟩
end
end KB
/-! ## KF -/
set_option Elab.async false
set_option linter.all false
set_option maxRecDepth 100000
set_option maxHeartbeats 4000000
namespace KB
open PySem PySem.Spec PyProof.Rows L2 Evl
/-! a tuple of texts, at an address -/
def tupA (K : PySem.W.Frag) (a : Addr) (xs : List Str) : Bool := match K.lookup a with
  | some ⟨.type c, _, .seq its _, _⟩ => decide (c = "tuple" ∧ its.size ≤ sizeLine) && He.relAll (xs.map V.str) its.toList
  | _ => false
theorem tupA_ok {K : PySem.W.Frag} {a : Addr} {xs : List Str} (h : tupA K a xs = true) (H : Hp) : SqT K H a (xs.map V.str) := by
  unfold tupA at h
  split at h
  · rename_i c dd its n sl hl
    obtain ⟨h1, h2⟩ := Bool.and_eq_true_iff.mp h
    obtain ⟨e1, e2⟩ := of_decide_eq_true h1
    exact .inr ⟨_, its, n, hl, by rw [e1], rfl, e2, He.relAll_ok h2⟩
  · cases h
/-! a dict of the top with text keys: what is looked up -/
def entB : List DictEntry → List (Str × V) → Bool
  | [], [] => true
  | e :: r, p :: q => (match e.key with
    | .str x _ => decide (x = p.1)
    | _ => false) && (He.relB p.2 e.val && entB r q)
  | _, _ => false
def tabB (K : PySem.W.Frag) (d : Addr) (kvs : List (Str × V)) : Bool := match K.lookup d with
  | some ⟨_, _, .dict es _, _⟩ => entB es.toList kvs
  | _ => false
/-- what is found -/
def Fnd (r : Option Value) (v : Option V) : Prop := match v with
  | none => r = none
  | some v => ∃ u, r = some u ∧ RelV v u
theorem isStr_str (x z : Str) (t : Tok) : (Value.str x t).isStr z = decide (x = z) := by
  rw [PySem.W.isStr_of]
  show Value.isStrOf z (.str x t) = _
  unfold Value.isStrOf
  by_cases h : x = z
  · subst h
    simp
  · rw [decide_eq_false h]
    simp [h]
    try exact fun q => h q.symm
theorem ent_look : ∀ {es : List DictEntry} {kvs : List (Str × V)}, entB es kvs = true → ∀ z : Str, ∃ r, (match es.find? (·.key.isStr z) with
    | some e => some (some e.val)
    | none => if es.any (·.refKey) then none else some none) = some r ∧ Fnd r (kvs.lookup z)
  | [], [], _, z => ⟨none, rfl, rfl⟩
  | [], _ :: _, h, _ => by cases h
  | _ :: _, [], h, _ => by cases h
  | e :: es, p :: kvs, h, z => by
    obtain ⟨h1, h2⟩ := Bool.and_eq_true_iff.mp (show ((match e.key with
      | .str x _ => decide (x = p.1)
      | _ => false) && (He.relB p.2 e.val && entB es kvs)) = true from h)
    obtain ⟨h3, h4⟩ := Bool.and_eq_true_iff.mp h2
    obtain ⟨eh, ek, ev⟩ := e
    obtain ⟨k, v⟩ := p
    cases ek with
    | str x t =>
      have ex : x = k := of_decide_eq_true h1
      subst ex
      have rv : RelV v ev := He.relB_ok h3
      obtain ⟨r, hr, hf⟩ := ent_look h4 z
      by_cases q : x = z
      · subst q
        refine ⟨some ev, ?_, ?_⟩
        · rw [List.find?_cons, show (Value.str x t).isStr x = true from by rw [isStr_str]; simp]
        · have el : List.lookup x ((x, v) :: kvs) = some v := by simp [List.lookup]
          rw [el]
          exact ⟨ev, rfl, rv⟩
      · refine ⟨r, ?_, ?_⟩
        · rw [List.find?_cons, show (Value.str x t).isStr z = false from by rw [isStr_str]; exact decide_eq_false q, List.any_cons]
          have rk : DictEntry.refKey ⟨eh, .str x t, ev⟩ = false := rfl
          rw [rk, Bool.false_or]
          exact hr
        · have el : List.lookup z ((x, v) :: kvs) = kvs.lookup z := by
            have qz : (z == x) = false := beq_eq_false_iff_ne.mpr fun w => q w.symm
            simp [List.lookup, qz]
          rw [el]
          exact hf
    | _ => cases h1
theorem tab_look {K : PySem.W.Frag} {d : Addr} {kvs : List (Str × V)} (h : tabB K d kvs = true) (z : Str) : ∃ r, PySem.W.nsIn K d z = some r ∧ Fnd r (kvs.lookup z) := by
  unfold tabB at h
  unfold PySem.W.nsIn
  split at h
  · rename_i hl
    rw [hl]
    exact ent_look h z
  · cases h
/-- the value at a key of a top's dict, if it is an object -/
def atK (x k : Str) (K : PySem.W.Frag) : Addr := match PySem.W.nsIn K (He.ga K x) k with
  | some (some (.ref a)) => a
  | _ => 0
/-! exception classes with an __init__ -/
def oexB (K : PySem.W.Frag) (C : Addr) : Bool := match K.lookup C with
  | some ⟨.type t, _, .cls cd, sl⟩ => (match cd.mro, sl.toList with
    | .ref D :: bm, [_, _, _, _, some (.builtin n), _] => decide (t = "type" ∧ D = C ∧ n = "ValueError.__new__" ∧ cd.hasDict = true ∧ cd.hasDel = false) && PySem.HandSPX.refsVE bm
    | _, _ => false)
  | _ => false
def exB (K : PySem.W.Frag) (C : Addr) : Bool := decide (PySem.W.findIn K (.ref C) "__setattr__" = some (some (.builtin "object.__setattr__"))) && (decide (PySem.W.subIn K (.ref C) (.type "BaseException") = some true) &&
  (decide (PySem.W.typeIn K (.ref C) = some (.type "type")) && PySem.W.keepIn K (.ref C)))
theorem oexB_ok {K : PySem.W.Frag} {C : Addr} (h : oexB K C = true) (h2 : exB K C = true) : OexC K C := by
  obtain ⟨a1, h2⟩ := Bool.and_eq_true_iff.mp h2
  obtain ⟨a2, h2⟩ := Bool.and_eq_true_iff.mp h2
  obtain ⟨a3, a4⟩ := Bool.and_eq_true_iff.mp h2
  refine ⟨?_, of_decide_eq_true a1, of_decide_eq_true a2, of_decide_eq_true a3, a4⟩
  unfold oexB at h
  split at h
  · rename_i t dd cd sl hl
    split at h
    · rename_i D bm k0 k1 k2 k3 n k5 hm hs
      obtain ⟨b1, b2⟩ := Bool.and_eq_true_iff.mp h
      obtain ⟨c1, c2, c3, c4, c5⟩ := of_decide_eq_true b1
      obtain ⟨nm, bs, mro, ns, qn, hd, sn, sb, ab, col, del⟩ := cd
      dsimp only at hm c4 c5
      subst c1 c2 c3 hm c4 c5
      refine ⟨nm, qn, ns, bs, bm, sn, sb, ab, col, dd, k0, k1, k2, k3, k5, ?_, b2⟩
      rw [hl]
      have es : sl = #[k0, k1, k2, k3, some (.builtin "ValueError.__new__"), k5] := by
        rw [← hs]
      rw [es]
    · cases h
  · cases h
/-! isinstance of a caught error whose fields stand in a dict -/
def isEB (K : PySem.W.Frag) (D : Addr) : Bool := decide (PySem.W.findIn K (.ref D) "__class__" = some (some (.builtin "object.__class__"))) && (decide (PySem.W.specialIn K (.builtin "object.__class__") "__get__" = some (some (.builtin "getset_descriptor.__get__"))) &&
  (decide (PySem.W.takesIn K (.builtin "object.__class__") = some true) && decide (PySem.W.mroIn K D (.type "object") = some true)))
section
variable {X : Cx} {a D : Addr} {oe : Obj} {pn : List (Addr × Obj)} {cls : Value} {d : Option Addr}
def rIsF (K : PySem.W.Frag) (D a dd : Addr) : List V → Hp → VK → Prop := fun xs H Q => ∃ (c : V) (cv : Value) (b : Bool), xs = [.ref a, c] ∧ (∃ fs, H dd = some (.xd fs)) ∧ (∀ u, RelV c u → u = cv) ∧ PySem.W.kitOne K (.ref D) cv = some b ∧ Q (.bl b) H
theorem call_isF {dd : Addr} (F : XfC X.K D) (B : isEB X.K D = true) (hz : Zc (.ref D) (some dd) oe) (hf : ∃ vs, oe.data = .fields vs) : CallR (X.suite a ((a, oe) :: pn)) (.builtin "isinstance") (rIsF X.K D a dd) := by
  obtain ⟨b1, B⟩ := Bool.and_eq_true_iff.mp B
  obtain ⟨b2, B⟩ := Bool.and_eq_true_iff.mp B
  obtain ⟨b3, b4⟩ := Bool.and_eq_true_iff.mp B
  intro pins s σ H xs us Q I r h
  obtain ⟨c, cv, b, rfl, ⟨fs, hdd⟩, hcv, e, q⟩ := h
  cases r with
  | cons rx rr =>
    cases rr with
    | cons rt rr =>
      cases rr
      cases rx
      obtain rfl := hcv _ rt
      obtain ⟨hget, _⟩ := I.pin (a, oe) (List.mem_append_left _ List.mem_cons_self)
      obtain ⟨vs, hv⟩ := hf
      have hx : ObjOk X.prog X.w H s.heap dd (.xd fs) := I.hok dd _ hdd
      obtain ⟨mA, hns, hr⟩ := hx
      obtain ⟨od, ho, hl⟩ := lookIn_ns hns
      have J : PySem.W.InstAt s.heap a oe D (some od) := ⟨hget, hz.1, by unfold PySem.W.notCls; rw [hv] <;> rfl, by rw [hz.2]; exact ho⟩
      have hc : (PySem.W.clsIn X.K D).isSome = true := by
        obtain ⟨cd, hcd, _⟩ := PySem.W.any_some F.hdC
        rw [hcd]
        rfl
      exact PySem.W.kia_one (PySem.W.kitx_exc hc F.ga F.gg F.exC (of_decide_eq_true b1) (of_decide_eq_true b2) (of_decide_eq_true b3) (of_decide_eq_true b4)) I.kIn J e (fun z => nomatch z) fun tk => ⟨.bl b, H, I.kept (t' := tk) fun _ _ z => z, rfl, q⟩
end
end KB
/-! ## KC -/
set_option Elab.async false
set_option linter.all false
set_option maxRecDepth 100000
set_option maxHeartbeats 4000000
namespace KB
open PySem PySem.Spec PyProof.Rows L2 Evl RZ
/-! names of the module -/
section
variable {X : Cx} {x : Str} {pos : Pos}
theorem pe_gi {i : Int} (h : ∃ t, X.mg x = some (.int i t)) (hg : Gl X x := by rfl) (hd : (x == ("__debug__" : Str)) = false := by decide) : PE X (.Name x pos) (tC (.int i)) := by
  obtain ⟨t, e⟩ := h
  exact pe_glob hg e ⟨t, rfl⟩ hd
theorem pe_gs {s : Str} (h : ∃ t, X.mg x = some (.str s t)) (hg : Gl X x := by rfl) (hd : (x == ("__debug__" : Str)) = false := by decide) : PE X (.Name x pos) (tC (.str s)) := by
  obtain ⟨t, e⟩ := h
  exact pe_glob hg e ⟨t, rfl⟩ hd
theorem pe_bty {T : String} (hm : X.mg x = none) (hv : bootBuiltins x = some (.type T)) (hg : Gl X x := by rfl) (hn : x ≠ "__name__" := by decide) (hd : (x == ("__debug__" : Str)) = false := by decide) : PE X (.Name x pos) (tC (.ty T)) := pe_bltn (v := .ty T) (u := .type T) hg hm hv rfl hn hd
theorem pe_gr {a : Addr} (h : X.mg x = some (.ref a)) (hg : Gl X x := by rfl) (hd : (x == ("__debug__" : Str)) = false := by decide) : PE X (.Name x pos) (tC (.ref a)) := pe_glob hg h rfl hd
end
/-! what types are -/
theorem hTys (T : String) (h : (["NoneType", "bool", "int", "str", "list", "tuple", "dict"].all fun s => (kitB s T).isSome) = true) : ∀ s ∈ ["NoneType", "bool", "int", "str", "list", "tuple", "dict"], (kitB s T).isSome = true := fun s hs => List.all_eq_true.mp h s hs
theorem tys_str : ∀ s ∈ ["NoneType", "bool", "int", "str", "list", "tuple", "dict"], (kitB s "str").isSome = true := hTys "str" (by decide +kernel)
theorem tys_int : ∀ s ∈ ["NoneType", "bool", "int", "str", "list", "tuple", "dict"], (kitB s "int").isSome = true := hTys "int" (by decide +kernel)
theorem tys_bool : ∀ s ∈ ["NoneType", "bool", "int", "str", "list", "tuple", "dict"], (kitB s "bool").isSome = true := hTys "bool" (by decide +kernel)
theorem tys_list : ∀ s ∈ ["NoneType", "bool", "int", "str", "list", "tuple", "dict"], (kitB s "list").isSome = true := hTys "list" (by decide +kernel)
theorem tys_tuple : ∀ s ∈ ["NoneType", "bool", "int", "str", "list", "tuple", "dict"], (kitB s "tuple").isSome = true := hTys "tuple" (by decide +kernel)
def isStr : Th → Bool | .str _ => true | _ => false
def isInt : Th → Bool | .int _ => true | .bl _ => true | _ => false
def isBool : Th → Bool | .bl _ => true | _ => false
def isLst : Th → Bool | .lst _ => true | _ => false
def isTup : Th → Bool | .tup _ => true | _ => false
def isTab (T : String) (f : Th → Bool) : Bool := decide (kitB "NoneType" T = some (f .non) ∧ kitB "bool" T = some (f (.bl true)) ∧ kitB "int" T = some (f (.int 0)) ∧ kitB "str" T = some (f (.str "")) ∧ kitB "list" T = some (f (.lst [])) ∧ kitB "tuple" T = some (f (.tup [])) ∧ kitB "dict" T = some (f .dic))
theorem isB_str (t : Th) : isB "str" t = isStr t := by
  have h : isTab "str" isStr = true := by decide +kernel
  obtain ⟨h1, h2, h3, h4, h5, h6, h7⟩ := of_decide_eq_true h
  cases t <;> simp only [isB, Th.ty, h1, h2, h3, h4, h5, h6, h7, Option.getD_some, isStr]
theorem isB_int (t : Th) : isB "int" t = isInt t := by
  have h : isTab "int" isInt = true := by decide +kernel
  obtain ⟨h1, h2, h3, h4, h5, h6, h7⟩ := of_decide_eq_true h
  cases t <;> simp only [isB, Th.ty, h1, h2, h3, h4, h5, h6, h7, Option.getD_some, isInt]
theorem isB_bool (t : Th) : isB "bool" t = isBool t := by
  have h : isTab "bool" isBool = true := by decide +kernel
  obtain ⟨h1, h2, h3, h4, h5, h6, h7⟩ := of_decide_eq_true h
  cases t <;> simp only [isB, Th.ty, h1, h2, h3, h4, h5, h6, h7, Option.getD_some, isBool]
theorem isB_list (t : Th) : isB "list" t = isLst t := by
  have h : isTab "list" isLst = true := by decide +kernel
  obtain ⟨h1, h2, h3, h4, h5, h6, h7⟩ := of_decide_eq_true h
  cases t <;> simp only [isB, Th.ty, h1, h2, h3, h4, h5, h6, h7, Option.getD_some, isLst]
theorem isB_tuple (t : Th) : isB "tuple" t = isTup t := by
  have h : isTab "tuple" isTup = true := by decide +kernel
  obtain ⟨h1, h2, h3, h4, h5, h6, h7⟩ := of_decide_eq_true h
  cases t <;> simp only [isB, Th.ty, h1, h2, h3, h4, h5, h6, h7, Option.getD_some, isTup]
/-! a def of the text that lets nothing out: its call -/
structure Cl (P : Program) (w : World) (K : PySem.W.Frag) (mg : Str → Option Value) (base : Heap) (k : Nat) (x : Str) (sp : Sp) : Prop where
  ex : ∃ (f : Addr) (fd : FuncData) (ps : List Str), FnOk P w K mg base CX0 k f fd ps sp ∧ mg x = some (.ref f) ∧ PySem.W.keepIn K (.ref f) = true ∧ Binds K fd ps []
section
variable {P : Program} {w : World} {K : PySem.W.Frag} {mg : Str → Option Value} {base : Heap} {x : Str} {k : Nat} {sp : Sp}
theorem cal_of {params : Arguments} {body : List Stmt} {scope : Scope} {f : Addr} {N ps : List Str}
    (F : ∃ fd, FunD K x x params body scope [] [] f fd ∧ Binds K fd ps []) (g : mg x = some (.ref f)) (S : FnScope N ps scope) (len : ∀ vs H Q E, sp vs H Q E → vs.length = ps.length)
    (hb : ∀ (cdv : Value) (A : Around) (outer : List Env) (s : Shared) (H : Hp) (vs : List V) (Q : VK) (E : XK), Room k (A.deeper (envOfC x scope s.heap.objs.size f cdv)) → sp vs H Q E →
      ∃ t, PSs (cxOf CX0 P w K mg base N x scope f cdv A outer s H E).nox body t ∧ t { nx := fun _ H' => Q .non H', rt := Q } (start N vs) H) : Cl P w K mg base (k + 1) x sp := by
  obtain ⟨fd, F, b⟩ := F
  exact ⟨f, fd, ps, F.ok S len fun cdv A outer s H vs Q E hr h => (hb cdv A outer s H vs Q E hr h).imp fun _ q => ⟨PSs.nox q.1, q.2⟩, g, F.kp, b⟩
theorem Cl.up {j : Nat} (c : Cl P w K mg base j x sp) (h : j ≤ k) : Cl P w K mg base k x sp := by
  obtain ⟨f, fd, ps, F, a, b, d⟩ := c.ex
  exact ⟨f, fd, ps, F.mono h, a, b, d⟩
end
section
variable {X : Cx} {k j : Nat} {x : Str} {sp : Sp} {p pos : Pos} {e : Expr} {es : List Expr} {t : TA}
theorem pe_c (c : Cl X.prog X.w X.K X.mg X.base k x sp) (hr : Room j X.A) (hk : k ≤ j) (hg : Gl X x) (ha : PA X (e :: es) t)
    (hdb : (x == ("__debug__" : Str)) = false := by decide) (he : starEach (e :: es) X.env = (false, eval e X.env) :: starEach es X.env := by rfl)
    (hpl : (backTo pos (starEach es X.env)).any (·.1) = false := by rfl) : PE X (.Call (.Name x p) (e :: es) [] pos) (tCall sp [] E0 t) := by
  obtain ⟨f, fd, ps, F, hm, kp, b⟩ := c.ex
  exact pe_call F (hr.mono hk) hg hm kp b .nil pass0 ha hdb he hpl
theorem pe_c0 (c : Cl X.prog X.w X.K X.mg X.base k x sp) (hr : Room j X.A) (hk : k ≤ j) (hg : Gl X x) (hdb : (x == ("__debug__" : Str)) = false := by decide) : PE X (.Call (.Name x p) [] [] pos) (tCall sp [] E0 tNil) := by
  obtain ⟨f, fd, ps, F, hm, kp, b⟩ := c.ex
  exact pe_call0 F (hr.mono hk) hg hm kp b .nil pass0 hdb
end
/-! promises of a test on one thing, on a thing and a number -/
def P1 (K : PySem.W.Frag) (D : Th → Prop) (f : Th → Bool) : Sp := Pu fun vs H v => ∃ x t, vs = [x] ∧ Rep K H x t ∧ D t ∧ v = .bl (f t)
def P2 (K : PySem.W.Frag) (D : Th → Int → Prop) (f : Th → Int → Bool) : Sp := Pu fun vs H v => ∃ x t n, vs = [x, .int n] ∧ Rep K H x t ∧ D t n ∧ v = .bl (f t n)
section
variable {K : PySem.W.Frag} {σ : L2.St} {H : Hp} {ta tb tc te : TE} {x y : V} {E : XK}
theorem ev_p1 {D : Th → Prop} {f : Th → Bool} {t : Th} (h : Ev ta σ H x) (r : Rep K H x t) (d : D t) : Ev (tCall (P1 K D f) [] E (tCons ta tNil)) σ H (.bl (f t)) :=
  ev_pu (ea_cons h ea_nil) fun H1 e => ⟨x, t, rfl, r.mono e, d, rfl⟩
theorem ev_p2 {D : Th → Int → Prop} {f : Th → Int → Bool} {t : Th} {n : Int} (h : Ev ta σ H x) (h2 : Ev tb σ H (.int n)) (r : Rep K H x t) (d : D t n) : Ev (tCall (P2 K D f) [] E (tCons ta (tCons tb tNil))) σ H (.bl (f t n)) :=
  ev_pu (ea_cons h (ea_cons h2 ea_nil)) fun H1 e => ⟨x, t, n, rfl, r.mono e, d, rfl⟩
/-! 1 <= n <= 8 -/
theorem ev_chain {i j k : Int} (ha : Ev ta σ H (.int i)) (hb : Ev tb σ H (.int j)) (hc : Ev tc σ H (.int k)) :
    Ev (tChain (rI0 fun i j => .bl (decide (i ≤ j))) (rI0 fun i j => .bl (decide (i ≤ j))) ta tb tc) σ H (.bl (decide (i ≤ j) && decide (j ≤ k))) := fun H1 e Q q =>
  ha H1 e _ fun H2 e2 => hb H2 (e.trans e2) _ fun H3 e3 => ⟨i, j, rfl, rfl, decide (i ≤ j), rfl, by
    by_cases hd : i ≤ j
    · rw [decide_eq_true hd] at q ⊢
      rw [if_pos rfl]
      exact hc H3 ((e.trans e2).trans e3) _ fun H4 e4 => ⟨j, k, rfl, rfl, q H4 ((e2.trans e3).trans e4)⟩
    · rw [decide_eq_false hd] at q ⊢
      rw [if_neg (by decide)]
      exact q H3 (e2.trans e3)⟩
theorem ev_lenS {z : Str} (h : Ev ta σ H (.str z)) (hz : z.length ≤ sizeLine) : Ev (tCB (fun xs H Q => ∃ z : Str, xs = [.str z] ∧ z.length ≤ sizeLine ∧ Q (.int z.length) H) (tCons ta tNil)) σ H (.int z.length) :=
  ev_cb (ea_cons h ea_nil) fun H1 e Q q => ⟨z, rfl, hz, q H1 (Ex.refl H1)⟩
theorem rv_inSg {c : Nat} {z : Str} : RV (fun x y H Q => ∃ (c : Nat) (z : Str), x = .str ⟨#[c]⟩ ∧ y = .str z ∧ Q (.bl (decide (c ∈ z.cps.toList))) H) (.str ⟨#[c]⟩) (.str z) H (.bl (decide (c ∈ z.cps.toList))) :=
  fun H1 e Q q => ⟨c, z, rfl, rfl, q H1 (Ex.refl H1)⟩
theorem rv_isN : RV (fun x y H Q => y = .non ∧ Q (.bl (decide (x = .non))) H) x .non H (.bl (decide (x = .non))) := fun H1 e Q q => ⟨rfl, q H1 (Ex.refl H1)⟩
theorem rv_notN : RV (fun x y H Q => y = .non ∧ Q (.bl (!decide (x = .non))) H) x .non H (.bl (!decide (x = .non))) := fun H1 e Q q => ⟨rfl, q H1 (Ex.refl H1)⟩
end
/-! the mirror: names, phrases, numbers -/
def lettersL : List Nat := ("abcdefghijklmnopqrstuvwxyz" : Str).cps.toList
def signsL : List Nat := ("abcdefghijklmnopqrstuvwxyz0123456789 " : Str).cps.toList
end KB
/-! ## KS -/
set_option Elab.async false
set_option linter.all false
set_option maxRecDepth 100000
set_option maxHeartbeats 8000000
namespace KB
open PySem PySem.Spec PyProof.Rows L2 Evl
/-! how many texts of a list differ -/
def memS (l : List Str) (k : Str) : Bool := l.any (· == k)
def dcR : List Str → Nat
  | [] => 0
  | x :: r => if memS r x = true then dcR r else dcR r + 1
def dc (l : List Str) : Nat := dcR l.reverse
theorem memS_rev (l : List Str) (k : Str) : memS l.reverse k = memS l k := by
  unfold memS
  rw [List.any_reverse]
theorem memS_app (l : List Str) (x k : Str) : memS (l ++ [x]) k = (memS l k || decide (k = x)) := by
  unfold memS
  rw [List.any_append]
  by_cases e : k = x
  · subst e
    simp
  · have h : (x == k) = false := beq_eq_false_iff_ne.mpr fun q => e q.symm
    simp [h, e]
theorem dc_app (l : List Str) (x : Str) : dc (l ++ [x]) = if memS l x = true then dc l else dc l + 1 := by
  unfold dc
  rw [List.reverse_append]
  show (if memS l.reverse x = true then dcR l.reverse else dcR l.reverse + 1) = _
  rw [memS_rev]
theorem dcR_le : ∀ l : List Str, dcR l ≤ l.length
  | [] => Nat.le_refl _
  | x :: r => by
    have h := dcR_le r
    unfold dcR
    split <;> simp only [List.length_cons] <;> omega
theorem dc_le (l : List Str) : dc l ≤ l.length := by
  have h := dcR_le l.reverse
  rw [List.length_reverse] at h
  exact h
theorem memS_iff (l : List Str) (k : Str) : memS l k = true ↔ k ∈ l := by
  unfold memS
  rw [List.any_eq_true]
  constructor
  · rintro ⟨x, h1, h2⟩
    rw [← beq_iff_eq.mp h2]
    exact h1
  · intro h
    exact ⟨k, h, beq_self_eq_true k⟩
theorem dcR_nodup : ∀ l : List Str, dcR l = l.length ↔ l.Nodup
  | [] => by simp [dcR]
  | x :: r => by
    have h := dcR_le r
    have ih := dcR_nodup r
    unfold dcR
    rw [List.nodup_cons, List.length_cons]
    by_cases m : memS r x = true
    · rw [if_pos m]
      have hx := (memS_iff r x).mp m
      constructor
      · intro q
        omega
      · rintro ⟨q, _⟩
        exact absurd hx q
    · rw [if_neg m]
      have hx : x ∉ r := fun q => m ((memS_iff r x).mpr q)
      constructor
      · intro q
        exact ⟨hx, ih.mp (by omega)⟩
      · rintro ⟨_, q⟩
        rw [ih.mpr q]
theorem dc_nodup (l : List Str) : dc l = l.length ↔ l.Nodup := by
  have h := dcR_nodup l.reverse
  rw [List.length_reverse] at h
  exact h.trans (by unfold List.Nodup; rw [List.pairwise_reverse]; exact ⟨fun q => q.imp fun h => Ne.symm h, fun q => q.imp fun h => Ne.symm h⟩)
theorem take_more {α : Type} {l : List α} {i : Nat} {x : α} (h : l[i]? = some x) : l.take (i + 1) = l.take i ++ [x] := by
  rw [List.take_add_one, h]
  rfl
/-! set(a list of texts) -/
section
variable {prog : Program} {w : World} {A : Around} {R : Result → Shared → Prop} {I : Addr} {fp wr : List Addr} {G : Array GenState → Array GenState → Prop} {n : Nat} {P : Nat → Value → Prop} {St : Nat → Shared → Prop}
theorem setLoop (W : WalksS prog w A.in1 I fp wr G n P St) (a : Addr) (ha : a ∉ fp) (xs : List Str) (hl : xs.length = n) (hz : n + 1 < scanBound) (hv : ∀ i v, P i v → ∃ x t, xs[i]? = some x ∧ v = .str x t) :
    ∀ (k i : Nat) (s : Shared), n - i = k → i ≤ n → St i s → s.heap.SetOf (PySem.strKind prog w) a (memS (xs.take i)) (dc (xs.take i)) →
      (∀ s', Moved (a :: wr) G s s' → s'.heap.SetOf (PySem.strKind prog w) a (memS xs) (dc xs) → R (.ok (.ret .none)) s') →
      codeAny (model prog w) A (.builtin "set.update.loop" ⟨[.ref a, .ref I], []⟩) R s := by
  have aw : a ∉ wr := fun q => ha (W.sub _ q)
  have sw : ∀ b ∈ wr, b ∈ a :: wr := fun b q => List.mem_cons_of_mem _ q
  intro k
  induction k with
  | zero =>
    intro i s e1 e2 st so fin
    obtain rfl : i = n := by omega
    refine codeAny_builtin PyProof.Rows.F.entry_set_update_loop ?_
    rw [Around.under_plainId PyProof.Rows.F.plain_set_update_loop _]
    show wpAny _ A.in1 (pyNext (.ref I) >>= _) _ _ s
    refine wpAny_bind (W.done s _ _ st fun s' mv => ?_)
    refine wpAny_pure (fin s' (mv.mono sw) ?_)
    rw [← hl, List.take_length] at so
    obtain ⟨o, es, ep, t, q, rest⟩ := so
    exact ⟨o, es, ep, t, mv.heap a _ aw q, rest⟩
  | succ k ih =>
    intro i s e1 e2 st so fin
    have lt : i < n := by omega
    refine codeAny_builtin PyProof.Rows.F.entry_set_update_loop ?_
    rw [Around.under_plainId PyProof.Rows.F.plain_set_update_loop _]
    show wpAny _ A.in1 (pyNext (.ref I) >>= _) _ _ s
    refine wpAny_bind (W.item i s _ _ lt st fun v s' pv st' mv => ?_)
    obtain ⟨x, t, hx, rfl⟩ := hv i v pv
    have so' : s'.heap.SetOf (PySem.strKind prog w) a (memS (xs.take i)) (dc (xs.take i)) := by
      obtain ⟨o, es, ep, t, q, rest⟩ := so
      exact ⟨o, es, ep, t, mv.heap a _ aw q, rest⟩
    have dl : dc (xs.take i) ≤ i := Nat.le_trans (dc_le _) (by rw [List.length_take]; omega)
    show wpAny _ A.in1 (holding [Value.str x t] (setAdd a (.str x t)) >>= _) _ _ s'
    refine wpAny_bind (wpAny_holding ?_)
    unfold setAdd
    refine wpAny_holding (wpAny_bind ((PySem.strKind prog w).pyHash (k := x) (strKind_is _ _ _ _) ?_))
    refine wpAny_setAddHashed_of (knd := PySem.strKind prog w) (s := { s' with toks := s'.toks + 1 }) (strKind_is _ _ _ _) rfl so' (by omega) fun h' sb so2 => ?_
    have so3 : h'.SetOf (PySem.strKind prog w) a (memS (xs.take (i + 1))) (dc (xs.take (i + 1))) := by
      refine SetOf_congr so2 (fun k' => ?_) ?_
      · rw [take_more hx, memS_app]
      · rw [take_more hx, dc_app]
    refine wpAny_pure ⟨plainId_quiet PyProof.Rows.F.plain_set_update_loop _, ih (i + 1) _ (by omega) lt (W.frame _ s' _ _ st' (Nat.le_succ _) fun b hb o e => ?_) so3 fun s'' mv2 so4 => ?_⟩
    · rw [sb.2 b (fun q : b = a => ha (by rw [← q]; exact hb))]
      exact e
    · refine fin s'' (Moved.trans W.gtrans ((mv.mono sw).then_heap (Nat.le_succ _) fun b o hb e => ?_) mv2) so4
      rw [sb.2 b (fun q : b = a => hb (by rw [q]; exact List.mem_cons_self))]
      exact e
end
section
variable {prog : Program} {w : World} {A : Around} {E : Value → Shared → Prop} {s : Shared}
def SetTo (prog : Program) (w : World) (s : Shared) (h' : Heap) (xs : List Str) : Prop := h'.SetOf (PySem.strKind prog w) s.heap.objs.size (memS xs) (dc xs) ∧ ∀ b o, b < s.heap.objs.size → s.heap.get? b = some o → h'.get? b = some o
theorem callSet {l : Addr} {items : Array Value} {xs : List Str} {Q : Value → Shared → Prop} (hh : A.handled = none) (hl : s.heap.IsList l items) (hi : PyProof.Rows.StrsAre items.toList xs) (hz : xs.length + 1 < scanBound)
    (h : ∀ (h' : Heap) (tk : Nat), SetTo prog w s h' xs → Q (.ref s.heap.objs.size) { s with heap := h', toks := tk }) : wpAny (model prog w) A (call (.type "set") [.ref l]) Q E s := by
  obtain ⟨c, tl, hmro⟩ := PySem.F.called_set.mro
  have m1 := PySem.F.called_set.made
  have m2 := PySem.F.called_set.sub
  refine wpAny_call (codeAny_of_tree ?_)
  show wpAny _ _ (callAny (.type "set") _) _ _ _
  refine wpAny_pure ⟨Code.quiet_builtin _ (by decide +kernel), codeAny_builtin PySem.F.entry_type_call ?_⟩
  rw [Around.under_plain (weight_type_call_type "set" [.ref l] []) rfl]
  have m3 := PySem.F.called_set.notType
  have m4 := PySem.F.called_set.canCreate
  have m5 := PySem.F.typeCall_set_1 (.ref l)
  repeat (any_goals (first | assumption | wp_step))
  refine codeAny_mono (code_set_new_1 (.ref l) (E := E) (Q₁ := fun obj s₁ => ∃ b : Bool, obj = .ref s.heap.objs.size ∧ s₁ = { s with heap := s.heap.push { cls := .type "set", dict := none, data := .set #[] 0 (.fresh 0 0 b) } }) fun b => ⟨b, rfl, rfl⟩) fun r s₁ hr => ?_
  cases r with
  | error e => exact hr
  | ok fl =>
    cases fl with
    | ret obj =>
      obtain ⟨b, rfl, rfl⟩ := hr
      have g1 : (s.heap.push { cls := .type "set", dict := none, data := .set #[] 0 (.fresh 0 0 b) }).get? s.heap.objs.size = some { cls := .type "set", dict := none, data := .set #[] 0 (.fresh 0 0 b) } := Heap.get?_push_size _ rfl
      have g2 : Shared.TypeIs { s with heap := s.heap.push { cls := .type "set", dict := none, data := .set #[] 0 (.fresh 0 0 b) } } (.ref s.heap.objs.size) "set" := ⟨_, g1, rfl⟩
      have m6 := PySem.F.called_set.init.lookup
      have m7 := PySem.F.called_set.init.bind (.ref s.heap.objs.size)
      repeat (any_goals (first | assumption | wp_step))
      refine codeAny_mono (codeAny_call_builtin (R := wants (fun r s₂ => r = .none ∧ ∃ h' tk, s₂ = { s with heap := h', toks := tk } ∧ SetTo prog w s h' xs) E) PySem.F.called_set.init.plain PySem.F.entry_set_init (check_set_init_1 g2 ?_)) fun r₂ s₂ hr₂ => ?_
      · obtain ⟨⟨oc, od, oda, osl⟩, o1, o2, nl, o3⟩ := hl
        simp only at o2 o3
        subst o2
        subst o3
        have o4 : (s.heap.push { cls := .type "set", dict := none, data := .set #[] 0 (.fresh 0 0 b) }).get? l = some { cls := .type "list", dict := od, data := .seq items nl, slots := osl } := Heap.get?_push_of_some _ o1
        have t1 := PySem.F.sub_list_set
        have t2 := PySem.F.sub_list_frozenset
        have t3 : (Value.type "list" == Value.type "dict") = false := by decide
        have o5 : (s.heap.push { cls := .type "set", dict := none, data := .set #[] 0 (.fresh 0 0 b) }).IsList l items := ⟨_, o4, rfl, nl, rfl⟩
        unfold Builtin.«set.__init__» noKeywords Builtin.Frozenset.updateFrom
        generalize hPI : pyIter = PI
        wp_walk
        subst hPI
        refine wpAny_pyIter_list o5 (wpAny_bind (wpAny_runValue ?_))
        have l1 : l < s.heap.objs.size := Heap.lt_size o1
        have a3 : A.in1.in1.in1.handled = none := by simp [hh]
        have n1 : l ≠ (s.heap.push { cls := .type "set", dict := none, data := .set #[] 0 (.fresh 0 0 b) }).objs.size := by
          rw [Heap.size_push]
          exact Nat.ne_of_lt (Nat.lt_succ_of_lt l1)
        have n2 : s.heap.objs.size ∉ [(s.heap.push { cls := .type "set", dict := none, data := .set #[] 0 (.fresh 0 0 b) }).objs.size, l] := by
          rw [Heap.size_push]
          simp only [List.mem_cons, List.not_mem_nil, or_false, not_or]
          exact ⟨Nat.ne_of_lt (Nat.lt_succ_self _), Nat.ne_of_gt l1⟩
        have z1 : xs.length = items.size := by rw [← StrsAre.len_eq hi, Array.length_toList]
        have vals : ∀ (i : Nat) (v : Value), items[i]? = some v → ∃ x t, xs[i]? = some x ∧ v = .str x t := fun i v q => by
          obtain ⟨t, e⟩ := SS.strs_at hi i v (by rw [Array.getElem?_toList]; exact q)
          have i1 : i < items.size := (Array.getElem?_eq_some_iff.mp q).1
          exact ⟨xs.getD i Str.empty, t, by rw [List.getD_eq_getElem?_getD, List.getElem?_eq_getElem (by omega)]; rfl, e⟩
        refine setLoop ((Walks.list a3 _ l n1 items).toS) s.heap.objs.size n2 xs z1 (by omega) vals (items.size - 0) 0 _ (by omega) (Nat.zero_le _) ⟨⟨_, Heap.get?_push_size _ rfl, rfl, rfl⟩, (o5.push _)⟩ ?hS ?hR
        case hS =>
          have g3 : ((s.heap.push { cls := .type "set", dict := none, data := .set #[] 0 (.fresh 0 0 b) }).push { cls := .type "list_iterator", data := .fields #[.ref l, .int 0 0] }).get? s.heap.objs.size = some { cls := .type "set", dict := none, data := .set #[] 0 (.fresh 0 0 b) } := Heap.get?_push_of_some _ g1
          exact PyProof.Rows.SetOf_congr ((PyProof.Rows.setObjOf_fresh (knd := PySem.strKind prog w) b).setOf g3 (by decide)) (fun _ => rfl) rfl
        case hR =>
          rintro ⟨h', g', d', tk', os'⟩ mv q
          obtain rfl : g' = s.gens := mv.gens
          obtain rfl : d' = s.drawn := mv.drawn
          obtain rfl : os' = s.os := mv.os
          refine wpAny_pure ?_
          show wpAny _ _ (ret Value.none) _ _ _
          refine wpAny_pure ⟨rfl, h', tk', rfl, q, fun c o hb e => ?_⟩
          have c1 : c ≠ s.heap.objs.size := Nat.ne_of_lt hb
          have c2 : c ≠ (s.heap.push { cls := .type "set", dict := none, data := .set #[] 0 (.fresh 0 0 b) }).objs.size := by
            rw [Heap.size_push]
            exact Nat.ne_of_lt (Nat.lt_succ_of_lt hb)
          exact mv.heap c o (by simp only [List.mem_cons, List.not_mem_nil, or_false, not_or]; exact ⟨c1, c2⟩) (Heap.get?_push_of_some _ (Heap.get?_push_of_some _ e))
      · cases r₂ with
        | error e => exact hr₂
        | ok fl₂ =>
          cases fl₂ with
          | ret r =>
            obtain ⟨rfl, h', tk, rfl, q⟩ := hr₂
            repeat (any_goals (first | assumption | wp_step))
            exact h _ _ q
          | _ => exact hr₂.elim
    | _ => exact hr.elim
end
/-! len(set(xs)) -/
def tLenSet (K : PySem.W.Frag) (ta : TE) : TE := fun σ H Q => ta σ H fun x H1 => ∃ l, ∃ xs : List Str, x = .ref l ∧ SqL K H1 l (xs.map V.str) ∧ xs.length + 1 < scanBound ∧ Q (.int (dc xs)) H1
section
variable {X : Cx}
theorem pe_lenSet {a : Expr} {ta : TE} {p p2 q pos : Pos} (hc : X.calm = true) (hg : Gl X "len") (hm : X.mg "len" = none) (hg2 : Gl X "set") (hm2 : X.mg "set" = none) (ha : PE X a ta)
    (na : starEach [a] X.env = (false, eval a X.env) :: starEach [] X.env := by rfl) : PE X (.Call (.Name "len" p) [.Call (.Name "set" p2) [a] [] q] [] pos) (tLenSet X.K ta) := by
  refine ⟨fun pins s σ H Q I h => ?_⟩
  refine Call_ (ld_blt I hg hm boot_len (PyProof.Rows.callWith_builtin1 (PyProof.Rows.args_cons ?_ rfl) rfl rfl))
  refine Call_ (ld_blt I hg2 hm2 boot_set ?_)
  refine PyProof.Rows.callWith_type1 (PyProof.Rows.args_cons (thn (ha.run pins s σ H _ I h) fun v s1 ⟨x, H1, I1, r1, q1⟩ => PyProof.Rows.args_nil ?_) na) na rfl
  obtain ⟨l, xs, rfl, hq, h1, q1⟩ := q1
  cases r1
  obtain ⟨its, r, pl, hz⟩ := I1.list hq
  refine callSet (I1.ok.hd hc) pl.isList (by simpa using L2.strsAre_of r) h1 fun h' tk ⟨hS, hk⟩ => PyProof.Rows.args_nil ?_
  obtain ⟨o, es, ep, t, ho, hex, hd, _, _, _, hf, hn⟩ := hS
  have I2 : Inv X pins σ H1 { s1 with heap := h', toks := tk } := I1.kept fun b o e => hk b o (Heap.lt_size e) e
  have le := dc_le xs
  have sb : scanBound = 4096 := rfl
  refine call_len_set ho hex hd hf (by rw [hn] <;> omega) ⟨.int (dc xs), H1, I2.tok _, ⟨_, by rw [hn]⟩, q1⟩
end
end KB
/-! ## KX -/
set_option Elab.async false
set_option linter.all false
set_option maxRecDepth 100000
set_option maxHeartbeats 8000000
namespace KB
open PySem PySem.Spec PyProof.Rows L2 Evl
open PpSet (newSet_ok compLoopS_any codeAny_compStart_set eval_SetComp)
section
variable {X : Cx}
/-! {elt for target in iter}, elt a text or an int: D the new set -/
def tSk (P : Program) (w : World) (wi : TI) (g : TG) (tt : TT) (te : TE) (vs : List Nat) : TE := fun σ H Q => wi σ H fun J H1 => ∀ D, H1 D = none → ∃ W : Nat → Nat → Hp → Prop, (∃ m, W 0 m (upd H1 D (SetK P w D (fun _ => false) 0))) ∧
  ∀ i m H, W i m H → (J.stop i H ∧ Q (.ref D) H) ∨ (J.go i H ∧ ∃ Nx : Hp → Prop, (∀ H', Nx H' → ∃ m', m' < m ∧ W (i + 1) m' H') ∧ ∀ x H', J.yld i H x H' → g x (wipe σ vs) H' fun σ2 H2 => wipe σ2 vs = wipe σ vs ∧
    tt σ2 H2 fun b H3 => if b = true then te σ2 H3 fun y H4 => ∃ (c : Key) (S : Key → Bool) (n : Nat), y = kV c ∧ H4 D = some (SetK P w D S n) ∧ n + 1 < scanBound ∧ Nx (upd H4 D (SetK P w D (fun j => S j || decide (j = c)) (if S c = true then n else n + 1))) else Nx H3)
theorem addK_ok {pins : List (Addr × Obj)} {σ : L2.St} {H : Hp} {s : Shared} {D : Addr} {S : Key → Bool} {n : Nat} {y : Key} {u : Value} {Q : Value → Shared → Prop} (I : Inv X pins σ H s) (ry : RelV (kV y) u) (hD : H D = some (SetK X.prog X.w D S n)) (room : n + 1 < scanBound)
    (h : ∀ v s', Inv X pins σ (upd H D (SetK X.prog X.w D (fun j => S j || decide (j = y)) (if S y = true then n else n + 1))) s' → Q v s') : wpAny (model X.prog X.w) X.A (call (.builtin "set.add") [.ref D, u]) Q X.xe s :=
  thn (mt_saddK pins s σ H (.ref D) [kV y] (.ref D) [u] (fun _ H' => H' = upd H D (SetK X.prog X.w D (fun j => S j || decide (j = y)) (if S y = true then n else n + 1))) I rfl (.cons ry .nil) ⟨D, y, S, n, rfl, rfl, hD, room, rfl⟩)
    fun v s' ⟨_, H', I', _, e⟩ => h v s' (by rw [← e]; exact I')
theorem sk_core {pins : List (Addr × Obj)} {s : Shared} {σ : L2.St} {H : Hp} {Q : VK} {elt tg iter : Expr} {ifs : List Expr} {scope : Scope} {own : List (PySem.Str × Nat)} {pos pos' : Pos} {wi : TI} {g : TG} {tt : TT} {te : TE} {use : Option (Value → Sem Unit)} {Qf : Value → Shared → Prop}
    (calm : X.calm = true) (nd : X.N.Nodup) (I : Inv X pins σ H s) (hi : PI X tg iter wi) (bk : BlkOk X.N X.env.scope scope own)
    (pg : ∀ (s : Shared) (H : Hp) (C : Addr) (cl : List (PySem.Str × Addr)) (fp : List Addr), PG (X.blk s H scope (compEnvC scope cl C X.env) fp) tg g) (pt : ∀ (s : Shared) (H : Hp) (C : Addr) (cl : List (PySem.Str × Addr)) (fp : List Addr), PTs (X.blk s H scope (compEnvC scope cl C X.env) fp) ifs tt)
    (pe : ∀ (s : Shared) (H : Hp) (C : Addr) (cl : List (PySem.Str × Addr)) (fp : List Addr), PE (X.blk s H scope (compEnvC scope cl C X.env) fp) elt te) (fold : ∀ x, foldedSetIterable iter X.env x = pure x) (h : tSk X.prog X.w wi g tt te (own.map (·.2)) σ H Q)
    (post : ∀ D C s' m H', Inv X pins σ H' s' → Q (.ref D) H' → s'.heap.Ns C m → FpOk X pins H' C → compPost (model X.prog X.w) X.A X.xe use Qf (.ref D) C (.ok .next) s') :
    wpAny (model X.prog X.w) X.A (comprehension (.SetComp elt [⟨tg, iter, ifs, 0⟩] scope pos) scope X.env pos' (newSet (.type "set")) false (eval iter X.env) use) Qf X.xe s := by
  have caps : ∀ y ∈ scope.names, y.2 = .free → ∃ c, X.env.cells.lookup y.1 = some c := fun y hy e => (bk.free y hy e).elim (fun k => I.ok.has _ (.inl k)) fun k => I.ok.has _ (.inr k)
  refine wpAny_comprehension_free (use := use) rfl fold (closure_ok caps) bk.kind (fun y hy e => by rw [bk.uniq y hy, e]) (thn (hi.run pins s σ H _ I h) fun xv s1 hx => thn hx fun itv s2 ⟨it, fp, tn, J, H2, e, I2, T, st2, f2, q⟩ => ?_)
  subst e
  refine newSet_ok (newEnv_comp ?_)
  generalize eD : s2.heap.objs.size = D
  obtain ⟨W, ⟨m0, w0⟩, turn⟩ := q D (I2.hok.fresh (Nat.le_of_eq eD))
  generalize es3 : ({ s2 with heap := s2.heap.push { cls := .type "set", dict := none, data := .set #[] 0 (.fresh 0 0 (!X.w.params.followText "set-order")) } } : Shared) = s3
  have hp3 : s3.heap = s2.heap.push { cls := .type "set", dict := none, data := .set #[] 0 (.fresh 0 0 (!X.w.params.followText "set-order")) } := by rw [← es3]
  have I3 : Inv X pins σ (upd H2 D (SetK X.prog X.w D (fun _ => false) 0)) s3 := by
    rw [← es3]
    refine I2.laid (t' := s2.toks) (fun b o e => Heap.get?_push_of_some _ e) (Nat.le_of_eq eD) ?_
    rw [← eD]
    exact setK_new ⟨_, #[], 0, _, Heap.get?_push_size _ rfl, ⟨rfl, rfl, rfl⟩, rfl, fun e q => by simp at q, fun k => by simp, by decide, by rfl, rfl⟩
  have sz : ∀ b ∈ fp, b < s2.heap.objs.size := fun b hb => by
    obtain ⟨o, e, _⟩ := T.obj _ _ st2 b hb
    exact Heap.lt_size e
  generalize eH3 : upd H2 D (SetK X.prog X.w D (fun _ => false) 0) = H3 at I3 w0
  have f3 : ∀ b ∈ fp, FpOk X pins H3 b ∧ b < s3.heap.objs.size := fun b hb => by
    have lt := sz b hb
    refine ⟨⟨?_, (f2 b hb).2⟩, by rw [hp3, Heap.size_push]; exact Nat.lt_succ_of_lt lt⟩
    rw [← eH3, upd_ne (by rw [← eD]; exact Nat.ne_of_lt lt)]
    exact (f2 b hb).1
  have st3 : tn 0 s3.heap := T.keep _ _ _ st2 fun b _ o e => by rw [hp3]; exact Heap.get?_push_of_some _ e
  have I4 := block_start I3 bk nd f3
  have pg := pg s3 H3 s3.heap.objs.size (cellsFrom (s3.heap.objs.size + 1) scope.names (cloFrom X.env.cells scope.names [])) fp
  have pt := pt s3 H3 s3.heap.objs.size (cellsFrom (s3.heap.objs.size + 1) scope.names (cloFrom X.env.cells scope.names [])) fp
  have pe := pe s3 H3 s3.heap.objs.size (cellsFrom (s3.heap.objs.size + 1) scope.names (cloFrom X.env.cells scope.names [])) fp
  show codeAny _ _ (.compStart (.SetComp elt [⟨tg, iter, ifs, 0⟩] scope pos) 0 (.ref it) (.ref D) (compEnvC scope (cellsFrom (s3.heap.objs.size + 1) scope.names (cloFrom X.env.cells scope.names [])) s3.heap.objs.size X.env)) (compPost (model X.prog X.w) X.A X.xe use Qf (.ref D) s3.heap.objs.size) { s3 with heap := pushCells (s3.heap.push { cls := .type "dict", data := .dict #[] }) scope.names }
  have nf : ∀ b ∈ fp, H3 b = none := fun b hb => (f3 b hb).1.1
  generalize hce : compEnvC scope (cellsFrom (s3.heap.objs.size + 1) scope.names (cloFrom X.env.cells scope.names [])) s3.heap.objs.size X.env = ce at I4 pg pt pe ⊢
  have cl : ce.locals = s3.heap.objs.size := by
    subst hce
    rfl
  generalize hs4 : ({ s3 with heap := pushCells (s3.heap.push { cls := .type "dict", data := .dict #[] }) scope.names } : Shared) = s4 at I4 ⊢
  have st4 : tn 0 s4.heap := T.keep _ _ _ st3 fun b _ o e => by rw [← hs4]; exact pushCells_keeps _ _ _ _ (Heap.get?_push_of_some _ e)
  have stat : ∀ {σ' : L2.St} {H' : Hp} {s' : Shared}, Inv (X.blk s3 H3 scope ce fp) [] σ' H' s' → (∀ b ∈ fp, H' b = none) → ∀ b ∈ fp, FpOk (X.blk s3 H3 scope ce fp) [] H' b := fun J hn b hb =>
    ⟨hn b hb, (J.ok.exf b hb).1, J.ok.exfs b hb, .inl hb, fun x c e => (J.ok.exf b hb).2 x c e, fun p hp => absurd (show p ∈ ([] : List (Addr × Obj)) ++ [] from hp) (by simp)⟩
  refine codeAny_compStart_set ?L (T.self X.A 0 _ _ _ st4 ?L)
  refine compLoopS_any (fun n s' => ∃ i H', Inv (X.blk s3 H3 scope ce fp) [] (wipe σ (own.map (·.2))) H' s' ∧ tn i s'.heap ∧ (∀ b ∈ fp, H' b = none) ∧ W i n H') ?_ m0 ⟨0, H3, I4, st4, nf, w0⟩
  rintro n s5 ⟨i, H5, I5, st5, n5, w5⟩
  rcases turn i n H5 w5 with ⟨stop, qq⟩ | ⟨go, Nx, hNx, step⟩
  · refine thnF (T.done (X.blk s3 H3 scope ce fp) rfl rfl rfl calm i [] s5 _ H5 (fun _ _ => False) I5 (stat I5 n5) st5 stop) fun r s6 ⟨hr, I6⟩ => ?_
    subst hr
    have I7 : Inv X pins σ H5 s6 := I3.call' (ch := fp) I6.os I6.base I6.hok I6.bare fun b hb => ⟨(f3 b hb).1.2.2.2.1, (f3 b hb).1.2.1, (f3 b hb).1.2.2.2.2.1, (f3 b hb).1.2.2.2.2.2⟩
    have nC : H5 s3.heap.objs.size = none := by
      have z : H5 ce.locals = none := I6.free
      rw [cl] at z
      exact z
    obtain ⟨m, hn, _⟩ := I6.loc
    have hn : s6.heap.Ns ce.locals m := hn
    rw [cl] at hn
    exact post D s3.heap.objs.size s6 m H5 I7 qq hn (I3.fpOk (Nat.le_refl _) nC)
  · refine thnF (T.item (X.blk s3 H3 scope ce fp) rfl rfl rfl calm i [] s5 _ H5 (fun _ _ => False) I5 (stat I5 n5) st5 go) fun r s6 ⟨u, hr, h6⟩ => ?_
    subst hr
    refine thnF h6 fun _ s7 ⟨x, H7, I7, r7, y7, st7, n7⟩ => ?_
    have J7 := I7.pinned (stat I7 n7) (T.obj _ _ st7)
    refine thnF (pg.run _ s7 _ H7 x u _ J7 r7 (step x H7 y7)) fun _ s8 ⟨σ8, H8, I8, hw8, q8⟩ => thnF (pt.run _ s8 σ8 H8 _ I8 q8) fun b s9 ⟨H9, I9, q9⟩ => ?_
    have fin : ∀ {s' : Shared} {H' : Hp}, Inv (X.blk s3 H3 scope ce fp) ([] ++ pinsAt fp s7.heap) σ8 H' s' → Nx H' → ∃ m, m < n ∧ ∃ i H', Inv (X.blk s3 H3 scope ce fp) [] (wipe σ (own.map (·.2))) H' s' ∧ tn i s'.heap ∧ (∀ b ∈ fp, H' b = none) ∧ W i m H' := fun {s' H'} J nx => by
      obtain ⟨m', hm, w'⟩ := hNx H' nx
      have pin : ∀ b ∈ fp, ∀ o, s7.heap.get? b = some o → s'.heap.get? b = some o ∧ H' b = none := fun b hb o e =>
        let z := J.pin (b, o) (List.mem_append_right _ (List.mem_append_right _ (mem_pinsAt hb e)))
        ⟨z.1, z.2.1⟩
      refine ⟨m', hm, i + 1, H', (J.unpinned (pins := [])).weak (by rw [← hw8, wipe_length]) (fun j v e => ?_), T.keep _ _ _ st7 fun b hb o e => (pin b hb o e).1, fun b hb => ?_, w'⟩
      · rw [← hw8] at e
        exact (wipe_some e).1
      · obtain ⟨o, e, _⟩ := T.obj _ _ st7 b hb
        exact (pin b hb o e).2
    cases b with
    | false =>
      simp only [Bool.false_eq_true, if_false] at q9 ⊢
      exact fin I9 q9
    | true =>
      simp only [if_true] at q9 ⊢
      refine thnF (pe.run _ s9 σ8 H9 _ I9 q9) fun z s10 ⟨yv, H10, I10, r10, cb, S0, n0, ey, hD10, hz10, nx⟩ => ?_
      subst ey
      exact thnF (addK_ok (X := X.blk s3 H3 scope ce fp) I10 r10 hD10 hz10 fun _ s11 I11 => fin I11 nx) fun _ _ q => q
theorem pe_sk {elt tg iter : Expr} {ifs : List Expr} {scope : Scope} {own : List (PySem.Str × Nat)} {pos : Pos} {wi : TI} {g : TG} {tt : TT} {te : TE} (calm : X.calm = true) (nd : X.N.Nodup) (hi : PI X tg iter wi) (bk : BlkOk X.N X.env.scope scope own)
    (pg : ∀ (s : Shared) (H : Hp) (C : Addr) (cl : List (PySem.Str × Addr)) (fp : List Addr), PG (X.blk s H scope (compEnvC scope cl C X.env) fp) tg g) (pt : ∀ (s : Shared) (H : Hp) (C : Addr) (cl : List (PySem.Str × Addr)) (fp : List Addr), PTs (X.blk s H scope (compEnvC scope cl C X.env) fp) ifs tt)
    (pe : ∀ (s : Shared) (H : Hp) (C : Addr) (cl : List (PySem.Str × Addr)) (fp : List Addr), PE (X.blk s H scope (compEnvC scope cl C X.env) fp) elt te) (fold : ∀ x, foldedSetIterable iter X.env x = pure x := by intro _; rfl) :
    PE X (.SetComp elt [⟨tg, iter, ifs, 0⟩] scope pos) (tSk X.prog X.w wi g tt te (own.map (·.2))) := by
  refine ⟨fun pins s σ H Q I h => ?_⟩
  rw [eval_SetComp]
  refine sk_core calm nd I hi bk pg pt pe fold h fun D C s' m H' J q hn ⟨f0, f1, f2, f3, f4, f5⟩ => ⟨m, hn, fun h'' sb => ?_⟩
  exact ⟨.ref D, H', J.turned (t' := s'.toks) (fun b o hb e => (sb.2 b hb).trans e) f0 f1 f3 f4 f5, rfl, q⟩
end
/-! len of such a set -/
def rLenK (P : Program) (w : World) : List V → Hp → VK → Prop := fun xs H Q => ∃ (a : Addr) (S : Key → Bool) (n : Nat), xs = [.ref a] ∧ H a = some (SetK P w a S n) ∧ n < 1000000 ∧ Q (.int n) H
theorem call_lenK {X : Cx} : CallR X (.builtin "len") (rLenK X.prog X.w) := by
  intro pins s σ H xs us Q I r h
  obtain ⟨a, S, n, rfl, ha, hz, q⟩ := h
  cases r with
  | cons r1 r2 =>
    cases r2
    cases r1
    obtain ⟨o, es, ep, t, ho, hex, hd, _, _, _, hf, hn⟩ := setK_get I ha
    exact call_len_set ho hex hd hf (by rw [hn] <;> omega) ⟨.int n, H, I.tok _, ⟨_, by rw [hn]⟩, q⟩
/-! the set of the texts that a comprehension over a list gives -/
def keysS (xs : List Str) : Key → Bool
  | .inr k => memS xs k
  | .inl _ => false
theorem keysS_app (xs : List Str) (x : Str) (j : Key) : keysS (xs ++ [x]) j = (keysS xs j || decide (j = .inr x)) := by
  cases j with
  | inl i =>
    have h : decide ((Sum.inl i : Key) = Sum.inr x) = false := decide_eq_false fun q => nomatch q
    rw [h]
    rfl
  | inr k =>
    show memS (xs ++ [x]) k = (memS xs k || decide ((Sum.inr k : Key) = Sum.inr x))
    rw [memS_app]
    congr 1
    by_cases e : k = x
    · subst e
      simp
    · have h : ¬ (Sum.inr k : Key) = Sum.inr x := fun q => e (Sum.inr.inj q)
      rw [decide_eq_false e, decide_eq_false h]
section
variable {P : Program} {w : World} {K : PySem.W.Frag} {σ : L2.St} {H : Hp} {te : TE}
/-- len({e for x in xs}), each e a text -/
theorem ev_lenSk {tl : TE} {a : Addr} {xs : List V} {ys : List Str} {j : Nat} {vs : List Nat} (h : Ev tl σ H (.ref a)) (hx : SqL K H a xs) (hl : ys.length = xs.length) (hz : xs.length ≤ 1000) (hw : ∀ x, wipe ((wipe σ vs).set j (some x)) vs = wipe σ vs)
    (he : ∀ (i : Nat) (x : V) (y : Str) (H1 : Hp), Ex H H1 → xs[i]? = some x → ys[i]? = some y → Ev te ((wipe σ vs).set j (some x)) H1 (.str y)) : Ev (tCB (rLenK P w) (tCons (tSk P w (iList K tl) (gName j) tYes te vs) tNil)) σ H (.int (dc ys)) := fun H0 e Q q => by
  show tSk P w (iList K tl) (gName j) tYes te vs σ H0 (fun x H1 => rLenK P w [x] H1 Q)
  unfold tSk
  refine ei_list h hx H0 e _ fun H1 e1 => ?_
  intro D hD
  refine ⟨fun i m H' => m = xs.length - i ∧ i ≤ xs.length ∧ Ex H1 H' ∧ H' D = some (SetK P w D (keysS (ys.take i)) (dc (ys.take i))), ⟨xs.length, by simp, Nat.zero_le _, Ex.new hD, ?_⟩, ?_⟩
  · rw [upd_same]
    congr 1
    congr 1
    funext k
    cases k <;> rfl
  · rintro i m H' ⟨rfl, hi, p1, p2⟩
    have hq := ex_l ((e.trans e1).trans p1) hx
    by_cases lt : i < xs.length
    · refine .inr ⟨walk_list.goes i H' lt hq, fun H'' => i < xs.length ∧ Ex H1 H'' ∧ H'' D = some (SetK P w D (keysS (ys.take (i + 1))) (dc (ys.take (i + 1)))), fun H'' q => ⟨xs.length - (i + 1), by omega, rfl, lt, q.2⟩, fun x H'' y => ?_⟩
      obtain ⟨rfl, hx'⟩ := walk_list.yields i H' x H'' lt hq y
      obtain ⟨y, hy⟩ : ∃ y, ys[i]? = some y := ⟨ys[i]'(by omega), by simp⟩
      refine ⟨hw x, ?_⟩
      show te _ H'' _
      refine he i x y H'' ((e.trans e1).trans p1) hx' hy H'' (Ex.refl _) _ fun H4 e4 => ⟨.inr y, _, _, rfl, e4 _ _ p2, ?_, lt, Ex.mut (p1.trans e4) hD, ?_⟩
      · have h1 := dc_le (ys.take i)
        have h2 : (ys.take i).length ≤ i := by rw [List.length_take]; omega
        have h3 : scanBound = 4096 := rfl
        omega
      · rw [upd_same, take_more hy, dc_app]
        congr 1
        congr 1
        funext k
        exact (keysS_app _ _ _).symm
    · obtain rfl : i = xs.length := by omega
      refine .inl ⟨walk_list.stops H' hq, D, _, _, rfl, p2, ?_, ?_⟩
      · have h1 := dc_le (ys.take xs.length)
        have h2 : (ys.take xs.length).length ≤ xs.length := by rw [List.length_take]; omega
        omega
      · rw [← hl, List.take_length]
        exact q H' (e1.trans p1)
end
end KB
/-! ## KE1 -/
set_option Elab.async false
set_option linter.all false
set_option maxRecDepth 100000
set_option maxHeartbeats 4000000
namespace KB
open PySem PySem.Spec PyProof.Rows L2 Evl RZ
section
variable {K : PySem.W.Frag} {σ : L2.St} {H H' : Hp} {ta tb te tx : TE} {x y v : V} {E : XK}
theorem walk_zipT {a b : Addr} {xs ys : List V} {n : Nat} (hn : n = min xs.length ys.length) : Walk (ItzT K a b) n (fun H => SqT K H a xs ∧ SqT K H b ys) (YPair (fun i => xs[i]?) (fun i => ys[i]?)) := by
  subst hn
  refine ⟨fun i _ hi q => ?_, fun _ q => ⟨xs, ys, q.1, q.2, by omega⟩, fun i H v H' _ q ⟨T, x, z, h1, h2, h3, h4, h5⟩ => ⟨T, x, z, h1, h2, h3, h4 xs q.1, h5 ys q.2⟩⟩
  exact ⟨xs, ys, xs[i]'(by omega), ys[i]'(by omega), q.1, q.2, by simp, by simp⟩
theorem el_lcW2 {wi : TI} {n : Nat} {g : TG} {vs : List Nat} (ys : List V) (hn : ys.length = n) (hz : n ≤ 50000)
    (hi : ∀ H1, Ex H H1 → ∀ R : It → Hp → Prop, (∀ J G Y H2, Ex H1 H2 → Walk J n G Y → (∀ H', Ex H2 H' → G H') →
      (∀ i x y H3 H4, Ex H2 H3 → Y i H3 x H4 → ys[i]? = some y → Ex H3 H4 ∧ ∀ Qc : L2.St → Hp → Prop, (∀ σ2 H5, wipe σ2 vs = wipe σ vs → Ex H4 H5 → Ev te σ2 H5 y → Qc σ2 H5) → g x (wipe σ vs) H4 Qc) → R J H2) → wi σ H1 R) :
    EvL (tLc wi g tYes te vs) σ H ys := fun H0 e Q q => hi H0 e _ fun J G Y H1 e1 w hG ht Dl hD => by
  refine lc_it w (fun i H' => Ex H1 H' ∧ H' Dl = some (.lst (ys.take i))) ⟨Ex.new hD, by rw [upd_same]; simp⟩ (fun i H' _ p => hG H' p.1) ?_ (fun H' p => ?_)
  · intro i x H2 H3 hlt ⟨p1, p2⟩ hy
    obtain ⟨y, hy'⟩ : ∃ y, ys[i]? = some y := ⟨ys[i]'(by omega), by simp⟩
    obtain ⟨e3, k⟩ := ht i x y H2 H3 p1 hy hy'
    refine k _ fun σ2 H4 hw e4 hev => ⟨hw, ?_⟩
    show te σ2 H4 _
    refine hev H4 (Ex.refl H4) _ fun H5 e5 => ⟨ys.take i, e5 _ _ (e4 _ _ (e3 _ _ p2)), sz_lt (by rw [List.length_take]; omega), Ex.mut (((p1.trans e3).trans e4).trans e5) hD, ?_⟩
    rw [upd_same, take_more hy']
  · refine q Dl H' (fresh_back e1 hD) (e1.trans p.1) ?_
    rw [p.2, ← hn, List.take_length]
/-- one of two targets -/
theorem g_pair {T : Addr} {i j : Nat} {Qc : L2.St → Hp → Prop} (h : H T = some (.tup [x, y])) (q : Qc ((σ.set i (some x)).set j (some y)) H) : gTup K 2 (gCons (gName i) (gCons (gName j) gNil)) (.ref T) σ H Qc :=
  ⟨T, [x, y], rfl, st_of h, rfl, x, [y], rfl, y, [], rfl, rfl, q⟩
/-! items of tuples and lists, slices -/
theorem ev_ixT {a : Addr} {xs : List V} {i : Nat} (h : Ev ta σ H (.ref a)) (hx : SqT K H a xs) (hi : xs[i]? = some v) : Ev (tOp (rIxT K) ta (tC (.int (i : Int)))) σ H v := ev_op h ev_c (rv_ixT hx (atI_nat hi))
theorem ev_ixL {a : Addr} {xs : List V} {i : Nat} (h : Ev ta σ H (.ref a)) (hx : SqL K H a xs) (hi : xs[i]? = some v) : Ev (tOp (rIxL K) ta (tC (.int (i : Int)))) σ H v := ev_op h ev_c (rv_ixL hx (atI_nat hi))
theorem sIx_one (n d : Nat) (h : 1 ≤ n) : HT.sIx n d (some 1) = 1 := by
  rw [show (1 : Int) = ((1 : Nat) : Int) from rfl, HT.sIx_nat]
  omega
theorem cutV_one (xs : List V) (h : 1 ≤ xs.length) : cutV xs (some 1) none = xs.drop 1 := by
  unfold cutV
  rw [sIx_one _ _ h, HT.sIx_none, List.take_of_length_le (by rw [List.length_drop]; exact Nat.le_refl _)]
/-- t[1:] of a tuple that is not empty: a new tuple -/
theorem eu_tail {a : Addr} {xs : List V} (h : Ev te σ H (.ref a)) (hx : SqT K H a xs) (hl : 1 ≤ xs.length) : EvU (tSl (rSlA K) te (tPart (tC (.int 1))) tNoPart) σ H (xs.drop 1) := fun H1 e Q q =>
  h H1 e _ fun H2 e2 => ⟨1, rfl, a, xs, rfl, ex_t (e.trans e2) hx, fun z => by
    rw [sIx_one _ _ hl] at z
    exact absurd z.1 (by decide), fun _ p hp => by
    refine q p _ (fresh_back e2 hp) (e2.trans (Ex.new hp)) ?_
    rw [upd_same, cutV_one _ hl]⟩
theorem rv_sEq {s t : Str} : RV rEq (.str s) (.str t) H (.bl (decide (s = t))) := by
  have h := rv_eq (H := H) (x := .str s) (y := .str t) rfl
  by_cases e : s = t
  · rw [decide_eq_true e]
    rwa [decide_eq_true (show (V.str s) = .str t by rw [e])] at h
  · rw [decide_eq_false e]
    rwa [decide_eq_false (fun q : V.str s = .str t => e (V.str.inj q))] at h
theorem rv_iNe {i j : Int} : RV rNe (.int i) (.int j) H (.bl (!decide (i = j))) := by
  have h := rv_ne (H := H) (x := .int i) (y := .int j) rfl
  by_cases e : i = j
  · rw [decide_eq_true e]
    rwa [decide_eq_true (show (V.int i) = .int j by rw [e])] at h
  · rw [decide_eq_false e]
    rwa [decide_eq_false (fun q : V.int i = .int j => e (V.int.inj q))] at h
theorem rv_iEq {i j : Int} : RV rEq (.int i) (.int j) H (.bl (decide (i = j))) := by
  have h := rv_eq (H := H) (x := .int i) (y := .int j) rfl
  by_cases e : i = j
  · rw [decide_eq_true e]
    rwa [decide_eq_true (show (V.int i) = .int j by rw [e])] at h
  · rw [decide_eq_false e]
    rwa [decide_eq_false (fun q : V.int i = .int j => e (V.int.inj q))] at h
/-! D.get(e), D[e] of a dict of the top -/
theorem ev_kget {d : Addr} {z : Str} {kvs : List (Str × V)} (h1 : Ev ta σ H (.ref d)) (h2 : Ev tb σ H (.str z)) (hl : ∃ r, PySem.W.nsIn K d z = some r ∧ Fnd r (kvs.lookup z)) : Ev (tKGet K d ta tb) σ H ((kvs.lookup z).getD .non) := fun H1 e Q q => by
  refine h1 H1 e _ fun H2 e2 => ⟨rfl, h2 H2 (e.trans e2) _ fun H3 e3 => ?_⟩
  obtain ⟨r, hr, hf⟩ := hl
  refine ⟨z, r, _, rfl, hr, ?_, q H3 (e2.trans e3)⟩
  cases hv : kvs.lookup z with
  | none =>
    rw [hv] at hf
    have hf : r = none := hf
    subst hf
    rfl
  | some v =>
    rw [hv] at hf
    obtain ⟨u, rfl, ru⟩ := hf
    exact ru
end
end KB
/-! ## KE2 -/
set_option Elab.async false
set_option linter.all false
set_option maxRecDepth 100000
set_option maxHeartbeats 4000000
namespace KB
open PySem PySem.Spec PyProof.Rows L2 Evl RZ
/-! an instance made where its __init__ may let an error out: what is wished of the error is told at the slots that stand -/
def tMakeS (C : Addr) (sp : Sp) (E : L2.St → XK) (t : TA) : TE := fun σ H Q => t σ H fun vs H1 => ∀ a dx, H1 a = none → H1 dx = none → dx ≠ a → sp (.ref a :: vs) (upd (upd H1 dx (.own a)) a (.ins C dx [])) (fun v H2 => v = .non ∧ Q (.ref a) H2) (E σ)
section
variable {X : Cx} {CT : CXT} {k : Nat} {f C : Addr} {fd : FuncData} {ps : List Str} {sp : Sp} {E : L2.St → XK} {x : Str} {p pos : Pos} {e : Expr} {es : List Expr} {t : TA}
theorem makeS_ok {pins : List (Addr × Obj)} {σ : L2.St} {H : Hp} {s : Shared} {Q : VK} {us : List Value} {vs : List V} (M : Mk X.K C f) (F : FnOk X.prog X.w X.K X.mg X.base CT k f fd ps sp) (room : Room (k + 1) X.A) (bn : Binds X.K fd ps []) (I : Inv X pins σ H s) (rv : Vals vs us)
    (out : ∀ {pins : List (Addr × Obj)} {H : Hp} {s : Shared} (e : Value) (s' : Shared), Inv X pins σ H s → CT X.stack H s (E σ) e s' → X.xe e s')
    (h : ∀ a dx, H a = none → H dx = none → dx ≠ a → sp (.ref a :: vs) (upd (upd H dx (.own a)) a (.ins C dx [])) (fun v H2 => v = .non ∧ Q (.ref a) H2) (E σ)) : wpAny (model X.prog X.w) X.A (call (.ref C) us) (EP X pins σ Q) X.xe s := by
  have go := h _ _ (I.hok.fresh (Nat.le_succ _)) (I.hok.fresh (Nat.le_refl _)) (Nat.ne_of_lt (Nat.lt_succ_self _))
  have J := Inv.made (C := C) I
  have rw2 : Vals (V.ref (s.heap.objs.size + 1) :: vs) (Value.ref (s.heap.objs.size + 1) :: us) := .cons rfl rv
  have len : (Value.ref (s.heap.objs.size + 1) :: us ++ ([] : List Value)).length = ps.length := by
    rw [List.append_nil, ← F.len _ _ _ _ go]
    exact rw2.length.symm
  have bd := bn _ (Value.ref (s.heap.objs.size + 1) :: us) J.kIn len
  rw [List.append_nil] at bd
  refine wpAny_call (make_map I.kIn M.makes M.init (beq_iff_eq.mp M.fn) (codeAny_mono (F.run _ X.stack _ _ _ _ _ _ _ (room.make C us []) (J.env0.make C us []) bd rw2 go) fun r s' q => ?_))
  match r, q with
  | .error e, q => exact out e s' J q
  | .ok (.ret u), q =>
    obtain ⟨v, H', J', rv', rfl, q3⟩ := J.after q
    exact ⟨rv', .ref (s.heap.objs.size + 1), H', J', rfl, q3⟩
  | .ok .next, q => exact q.elim
  | .ok .brk, q => exact q.elim
  | .ok .cont, q => exact q.elim
theorem pe_makeS (M : Mk X.K C f) (F : FnOk X.prog X.w X.K X.mg X.base CT k f fd ps sp) (room : Room (k + 1) X.A) (bn : Binds X.K fd ps []) (hg : Gl X x) (hm : X.mg x = some (.ref C)) (out : ∀ σ, PassesAt CT X σ (E σ)) (ha : PA X (e :: es) t)
    (hdb : (x == ("__debug__" : Str)) = false := by decide) (he : starEach (e :: es) X.env = (false, eval e X.env) :: starEach es X.env := by rfl) (hpl : (backTo pos (starEach es X.env)).any (·.1) = false := by rfl) : PE X (.Call (.Name x p) (e :: es) [] pos) (tMakeS C sp E t) :=
  ⟨fun pins s σ H Q I h => wpAny_Call_Name_kw (ld_glob I hg hm (PySem.W.callWith_K (h₀ := X.base) I.ok.mod.kin M.kp (thn (ha.run pos pins s σ H _ I h) fun us s1 ⟨vs, H1, J, rv, q⟩ => ⟨J.kIn, makeS_ok M F room bn J rv (fun e s' J2 c => out σ _ _ _ e s' J2 c) q⟩) he hpl) hdb)⟩
end
end KB
/-! ## KE3 -/
set_option Elab.async false
set_option linter.all false
set_option maxRecDepth 100000
set_option maxHeartbeats 4000000
namespace PySem
namespace KE3
/-! a dict beside a text -/
theorem dict_declines (l : Addr) (es : Array DictEntry) (n : Nat) (dd : Option Addr) (c : Value) (sl : Array (Option Value)) (b : Str) (u : Tok) :
    Meets (Builtin.«dict.__eq__» ⟨[.ref l, .str b u], []⟩) (fun _ R s => s.heap.get? l = some { cls := .type "dict", dict := dd, data := .dict es n, slots := sl } ∧ R (.ok (.ret .notImplemented)) s) :=
  .of_wp fun prog w A R s h => by obtain ⟨hp, g, d, tk, os⟩ := s; obtain ⟨hl, h⟩ := h; have f1 := F.sub_str_dict; wp_walk using wpAny_loadPart' hl, wpAny_load hl; exact ⟨_, rfl, h⟩
theorem str_declines (b : Str) (u : Tok) (l : Addr) (es : Array DictEntry) (n : Nat) (dd : Option Addr) (sl : Array (Option Value)) :
    Meets (Builtin.«str.__eq__» ⟨[.str b u, .ref l], []⟩) (fun _ R s => s.heap.get? l = some { cls := .type "dict", dict := dd, data := .dict es n, slots := sl } ∧ R (.ok (.ret .notImplemented)) s) :=
  .of_wp fun prog w A R s h => by obtain ⟨hp, g, d, tk, os⟩ := s; obtain ⟨hl, h⟩ := h; wp_walk using wpAny_loadPart' hl, wpAny_load hl; exact ⟨_, rfl, h⟩
end KE3
end PySem
namespace KB
open PySem PySem.Spec PyProof.Rows L2 Evl RZ SeqAt
def strIs (s : Str) : Th → Bool
  | .str z => decide (z = s)
  | _ => false
/-- x == a text, x anything told -/
def rEqW (K : PySem.W.Frag) : R2 := fun x y H Q => ∃ s t, y = .str s ∧ Rep K H x t ∧ Q (.bl (strIs s t)) H
section
variable {X : Cx}
theorem op_eqW (hu : X.A.units < cLine) : OpR X (compareOp .Eq) (rEqW X.K) := by
  intro pins s σ H x y v u Q I rx ry h
  obtain ⟨z, t, rfl, r, q⟩ := h
  have sc : ∀ b, scal x (.str z) = true → decide (x = .str z) = b → Q (.bl b) H → wpAny (model X.prog X.w) X.A (compareOp .Eq v u) (EP X pins σ Q) X.xe s := fun b h1 h2 q => op_eq pins s σ H x (.str z) v u Q I rx ry ⟨h1, by rw [h2]; exact q⟩
  cases r with
  | non => exact sc _ rfl rfl q
  | bl b => exact sc _ rfl rfl q
  | int i => exact sc _ rfl rfl q
  | str w => exact sc _ rfl (decide_eq_decide.mpr ⟨fun h => V.str.inj h, fun h => by rw [h]⟩) q
  | lst hL _ =>
    cases rx
    obtain ⟨t', rfl⟩ := ry
    obtain ⟨its, rv, pl, hz⟩ := I.list (sq_of hL)
    exact SeqAt.RcAt.list_str z t' pl.isList hu _ _ _ _ ⟨.bl false, H, I, rfl, q⟩
  | tup hT _ =>
    cases rx
    obtain ⟨t', rfl⟩ := ry
    obtain ⟨its, rv, ht, hz⟩ := I.tuple hT
    exact SeqAt.RcAt.tuple_str z t' ht hu _ _ _ _ ⟨.bl false, H, I, rfl, q⟩
  | dic hd =>
    cases rx
    obtain ⟨t', rfl⟩ := ry
    obtain ⟨_, _, vs, rel, o, es, ep, ho, hc, hdat, _⟩ := dk_of I.hok hd
    have hcl : o.cls = .type "dict" := hc.1
    obtain ⟨cls, dd, data, sl⟩ := o
    simp only at hcl hdat
    subst hcl hdat
    exact rc_eq_decline_or (k := false) ⟨_, ho, rfl⟩ (typeIs_str s z t') (by decide) F.sub_str_dict F.slot_dict_eq F.slot_str_eq_refl
      (fun _ hq => call_meets F.slot_dict_eq ⟨_, ho, rfl⟩ F.entry_dict_eq (F.args_dict_eq_2 _ _) (KE3.dict_declines _ es ep dd (.type "dict") sl z t') ⟨ho, hq⟩)
      (fun _ hq => call_meets F.slot_str_eq_refl (typeIs_str s z t') F.entry_str_eq (F.args_str_eq_2 _ _) (KE3.str_declines z t' _ es ep dd sl) ⟨ho, hq⟩)
      (fun _ hq => wpAny_of_eq (rfl : isSame (.ref _) (.str z t') = pure false) hq) (.inr hu) ⟨.bl false, H, I, rfl, q⟩
/-- s * n -/
def rRepS : R2 := fun x y H Q => ∃ (s : Str) (n : Int), x = .str s ∧ y = .int n ∧ 0 ≤ n ∧ n ≤ 1000 ∧ s.length ≤ 1000 ∧ ∀ z : Str, z.length ≤ s.length * n.toNat + s.length → Q (.str z) H
theorem op_repS : OpR X (binaryOp .Mult) rRepS := by
  intro pins s σ H x y v u Q I rx ry h
  obtain ⟨z, n, rfl, rfl, h1, h2, h3, q⟩ := h
  obtain ⟨t1, rfl⟩ := rx
  obtain ⟨t2, rfl⟩ := ry
  have hlen : ∀ (k : Nat) (a : Array Nat), ((List.replicate k z.cps).foldl (· ++ ·) a).size = a.size + z.length * k := by
    intro k
    induction k with
    | zero => intro a; simp
    | succ k ih =>
      intro a
      rw [List.replicate_succ, List.foldl_cons, ih, Array.size_append, Nat.mul_succ]
      show a.size + z.cps.size + z.length * k = a.size + (z.length * k + z.length)
      have : z.length = z.cps.size := rfl
      omega
  have hb : z.length * n.toNat ≤ 1000 * 1000 := Nat.mul_le_mul h3 (by omega)
  refine P.mul_str (by
    rw [decide_eq_false (by omega), decide_eq_false (by omega)]
    rfl) (fun h4 _ => ?_) (fun _ _ => ?_) ?_
  · have h5 : (z.length : Int) * n ≤ 1000 * 1000 := Int.mul_le_mul (by omega) h2 h1 (by decide)
    have h6 : (z.length : Int) ≤ (2 ^ 63 - 1) / n := Int.le_ediv_of_mul_le (by omega) (by omega)
    omega
  · show decide (_ > sizeLine) = false
    rw [sizeLine_eq]
    exact decide_eq_false (by omega)
  · split
    · exact ⟨by decide, ⟨.str Str.empty, H, I.tok _, ⟨_, rfl⟩, q _ (Nat.zero_le _)⟩⟩
    · split
      · exact ⟨.str z, H, I, ⟨_, rfl⟩, q _ (by omega)⟩
      · refine ⟨?_, ⟨.str ⟨(List.replicate n.toNat z.cps).foldl (· ++ ·) #[]⟩, H, I.tok _, ⟨_, rfl⟩, q _ ?_⟩⟩
        · show ((List.replicate n.toNat z.cps).foldl (· ++ ·) #[]).size ≤ sizeLine
          rw [hlen, sizeLine_eq]
          simp only [List.size_toArray, List.length_nil, Nat.zero_add]
          omega
        · show ((List.replicate n.toNat z.cps).foldl (· ++ ·) #[]).size ≤ _
          rw [hlen]
          simp
theorem RcAt_str_dict {A : Around} {s : Shared} {l : Addr} {es : Array DictEntry} {ep : Nat} {dd : Option Addr} {sl : Array (Option Value)} (b : Str) (u : Tok) (ho : s.heap.get? l = some { cls := .type "dict", dict := dd, data := .dict es ep, slots := sl }) (hu : A.units < cLine) : RcAt A s (.str b u) (.ref l) false := fun prog w E Q h =>
  rc_eq_decline_or (k := false) (typeIs_str s b u) ⟨_, ho, rfl⟩ (by decide) F.sub_dict_str F.slot_str_eq F.slot_dict_eq_refl
    (fun _ hq => call_meets F.slot_str_eq (typeIs_str s b u) F.entry_str_eq (F.args_str_eq_2 _ _) (KE3.str_declines b u l es ep dd sl) ⟨ho, hq⟩)
    (fun _ hq => call_meets F.slot_dict_eq_refl ⟨_, ho, rfl⟩ F.entry_dict_eq (F.args_dict_eq_2 _ _) (KE3.dict_declines l es ep dd (.type "dict") sl b u) ⟨ho, hq⟩)
    (fun _ hq => wpAny_of_eq (rfl : isSame (.str b u) (.ref l) = pure false) hq) (.inr hu) h
theorem EqAt_str_dict {A : Around} {s : Shared} {l : Addr} {es : Array DictEntry} {ep : Nat} {dd : Option Addr} {sl : Array (Option Value)} (b : Str) (u : Tok) (ho : s.heap.get? l = some { cls := .type "dict", dict := dd, data := .dict es ep, slots := sl }) (hu : A.units < cLine) : EqAt A s (.str b u) (.ref l) false := fun prog w E Q h => by
  unfold eqBool
  refine wpAny_holding ?_
  refine wpAny_ite_split (fun hab => absurd (eq_of_beq hab) nofun) (fun _ => ?_)
  exact wpAny_bind (RcAt_str_dict b u ho hu prog w E _ (wpAny_truthy_bool h))
/-- x in a tuple of texts, x anything told -/
def rInT (K : PySem.W.Frag) : R2 := fun x y H Q => ∃ (p : Addr) (zs : List Str) (t : Th), y = .ref p ∧ SqT K H p (zs.map V.str) ∧ Rep K H x t ∧ Q (.bl (zs.any fun z => strIs z t)) H
def strU (t : Th) : Value → Bool
  | .str z _ => strIs z t
  | _ => false
theorem any_strU (t : Th) : ∀ {zs : List Str} {us : List Value}, Vals (zs.map V.str) us → us.any (strU t) = zs.any fun z => strIs z t
  | [], _, r => by
    rw [List.map_nil] at r
    cases r
    rfl
  | z :: zs, _, r => by
    rw [List.map_cons] at r
    cases r with
    | cons h q =>
      obtain ⟨t', rfl⟩ := h
      rw [List.any_cons, List.any_cons, any_strU t q]
      rfl
theorem str_mem : ∀ {zs : List Str} {us : List Value} {w : Value}, Vals (zs.map V.str) us → w ∈ us → ∃ z t', w = .str z t'
  | [], _, _, r, h => by
    rw [List.map_nil] at r
    cases r
    cases h
  | z :: zs, _, w, r, h => by
    rw [List.map_cons] at r
    cases r with
    | cons a q =>
      rcases List.mem_cons.mp h with rfl | h
      · obtain ⟨t', a⟩ := a
        exact ⟨z, t', a⟩
      · exact str_mem q h
theorem op_inT (hu : X.A.units + 1 < cLine) : OpR X (compareOp .In) (rInT X.K) := by
  intro pins s σ H x y v u Q I rx ry h
  obtain ⟨p, zs, t, rfl, hp, r, q⟩ := h
  cases ry
  obtain ⟨its, rv, pl, hz⟩ := I.tuple hp
  refine in_tupleAt (strU t) pl (fun w hw => ?_) ⟨.bl _, H, I, rfl, by rw [show its.toArray.any (strU t) = its.any (strU t) by simp, any_strU t rv]; exact q⟩
  obtain ⟨z, t', rfl⟩ := str_mem rv (show w ∈ its by simpa using hw)
  cases r with
  | non =>
    cases rx
    exact EqAt.str_none z t'
  | bl b =>
    cases rx
    exact EqAt.str_bool z t' b
  | int i =>
    obtain ⟨t2, rfl⟩ := rx
    exact EqAt.str_int z t' i t2
  | str w =>
    obtain ⟨t2, rfl⟩ := rx
    have h9 : strU (.str w) (.str z t') = (z == w) := by
      show decide (w = z) = (z == w)
      by_cases e : w = z
      · rw [e]
        simp
      · rw [decide_eq_false e, beq_eq_false_iff_ne.mpr (Ne.symm e)]
    rw [h9]
    exact EqAt.str_str z t' w t2
  | lst hL _ =>
    cases rx
    obtain ⟨its2, rv2, pl2, _⟩ := I.list (sq_of hL)
    exact EqAt.str_list z t' pl2.isList hu
  | tup hT _ =>
    cases rx
    obtain ⟨its2, rv2, ht, _⟩ := I.tuple hT
    exact EqAt.str_tuple z t' ht hu
  | dic hd =>
    cases rx
    obtain ⟨_, _, vs, rel, o, es, ep, ho, hc, hdat, _⟩ := dk_of I.hok hd
    have hcl : o.cls = .type "dict" := hc.1
    obtain ⟨cls, dd, data, sl⟩ := o
    simp only at hcl hdat
    subst hcl hdat
    exact EqAt_str_dict z t' ho hu
theorem ev_inTt {K : PySem.W.Frag} {σ : L2.St} {H : Hp} {ta tb : TE} {x : V} {t : Th} {p : Addr} {zs : List Str} (h : Ev ta σ H x) (r : Rep K H x t) (h2 : Ev tb σ H (.ref p)) (hp : SqT K H p (zs.map V.str)) : Ev (tOp (rInT K) ta tb) σ H (.bl (zs.any fun z => strIs z t)) :=
  ev_op h h2 fun H1 e Q q => ⟨p, zs, t, rfl, ex_t e hp, r.mono e, q H1 (Ex.refl _)⟩
end
end KB
/-! ## KD -/
set_option Elab.async false
set_option linter.all false
set_option maxRecDepth 100000
set_option maxHeartbeats 8000000
namespace KB
open PySem PySem.Spec PyProof.Rows L2 Evl
section
variable {X : Cx}
/-! dicts whose keys are tuples: written, and told by a comprehension -/
theorem dT_set {pins : List (Addr × Obj)} {σ : L2.St} {H : Hp} {s : Shared} {E : Value → Shared → Prop} {D b : Addr} {kvs : List (List Key × V)} {k : List Key} {v : V} {r : Value} {Q : Unit → Shared → Prop} (hu : X.A.units < cLine) (I : Inv X pins σ H s) (hD : H D = some (.dT kvs)) (eb : H b = some (.tup (k.map kV)))
    (hz : kvs.length < sizeLine) (rv : RelV v r) (h : ∀ s', Inv X pins σ (upd H D (.dT (putK kvs k v))) s' → Q () s') : wpAny (model X.prog X.w) X.A (dictSet D (.ref b) r) Q E s := by
  obtain ⟨z, hd, xs, rel, dd⟩ := dt_of I.hok hD
  have hzx : xs.length ≤ sizeLine := by rw [← Paired.length rel]; exact z
  have hl : (putK kvs k v).length ≤ sizeLine := by have := length_putK kvs k v; omega
  refine wpAny_dictSet_heap (hsz := hzx) (knd := tupleKind (mixKind X.prog X.w)) hu (key_of I.hok eb) dd fun h' dd' hs => h _ ?_
  obtain ⟨q, es, ep, hq, h2, h3, h4, _, h5⟩ := dd'
  refine d_write I (by rw [hD]; exact True.intro) hs ⟨q, hq⟩ ⟨hl, hd, _, (rel.put k eb rv).keeps fun c ys ec => ?_, q, es, ep, hq, h2, h3, h4, h5⟩
  rw [upd_ne fun z => by rw [z, hD] at ec; cases ec]
  exact ec
/-- {k: v} -/
def tDisp1 (tk tv : TE) : TE := fun σ H Q => ∀ p, H p = none → tk σ (upd H p (.dT [])) fun x H1 => tv σ H1 fun y H2 => ∃ (k : List Key) (b : Addr), x = .ref b ∧ H2 b = some (.tup (k.map kV)) ∧ H2 p = some (.dT []) ∧ Q (.ref p) (upd H2 p (.dT [(k, y)]))
theorem pe_disp1 {ke ve : Expr} {pos : Pos} {tk tv : TE} (hu : X.A.units < cLine) (hk : PE X ke tk) (hv : PE X ve tv) : PE X (.Dict [some ke] [ve] pos) (tDisp1 tk tv) := by
  refine ⟨fun pins s σ H Q I q => ?_⟩
  have hn := I.hok.fresh (Nat.le_refl s.heap.objs.size)
  have I1 := I.laid (a := s.heap.objs.size) (o := .dT []) (h' := s.heap.push { cls := .type "dict", data := .dict #[] }) (t' := s.toks) (fun _ _ q => Heap.get?_push_of_some _ q) (Nat.le_refl _) (dt_empty s.heap I.big)
  rw [arm_eval_Dict, zip_pairTrees [some ke] [ve] X.env pos rfl rfl, dictDisplay_pairs (pairTrees [some ke] [ve] X.env pos) (fun z => by
    have := pairTrees_length [some ke] [ve] X.env pos rfl rfl
    rw [z] at this
    cases this) (by rw [pairTrees_length [some ke] [ve] X.env pos rfl rfl]; simp)]
  refine wpAny_bind (wpAny_standAt (wpAny_bind (wpAny_subDictH (knd := tupleKind (mixKind X.prog X.w)) hu (by rw [pairTrees_length [some ke] [ve] X.env pos rfl rfl]; simp) ?_)))
  refine pairTrees_cons_walk (thn (hk.run pins _ σ _ _ I1 (q _ hn)) fun u s1 ⟨x, H1, I2, rx, q1⟩ => thn (hv.run pins s1 σ H1 _ I2 q1) fun w2 s2 ⟨y, H2, I3, ry, k, b, ex, hb, hp, q2⟩ => pairTrees_nil_walk ?_)
  subst ex
  cases rx
  obtain ⟨z, hd, xs, rel, dd⟩ := dt_of I3.hok hp
  cases rel
  refine ⟨[(k, b, w2)], ⟨rfl, rfl, key_of I3.hok hb, trivial⟩, dd, fun h' tk' dd' hs => wpAny_pure ⟨.ref s.heap.objs.size, _, ?_, rfl, q2⟩⟩
  obtain ⟨o, es, ep, hq, h2, h3, h4, _, h5⟩ := dd'
  refine d_write I3 (by rw [hp]; exact True.intro) hs ⟨o, hq⟩ ⟨sz_of (by simp), hd, _, ?_, o, es, ep, hq, h2, h3, h4, h5⟩
  refine .cons ⟨rfl, ?_, ry⟩ .nil
  show upd H2 s.heap.objs.size _ b = _
  rw [upd_ne fun z => by rw [z, hp] at hb; cases hb]
  exact hb
def tDcT (wi : TI) (g : TG) (tt : TT) (tk tv : TE) (vs : List Nat) : TE := fun σ H Q => wi σ H fun J H1 => ∀ D, H1 D = none → ∃ W : Nat → Nat → Hp → Prop, (∃ m, W 0 m (upd H1 D (.dT []))) ∧
  ∀ i m H, W i m H → (J.stop i H ∧ Q (.ref D) H) ∨ (J.go i H ∧ ∃ Nx : Hp → Prop, (∀ H', Nx H' → ∃ m', m' < m ∧ W (i + 1) m' H') ∧ ∀ x H', J.yld i H x H' → g x (wipe σ vs) H' fun σ2 H2 => wipe σ2 vs = wipe σ vs ∧
    tt σ2 H2 fun b H3 => if b = true then tk σ2 H3 fun y H4 => tv σ2 H4 fun z H5 => ∃ (k : List Key) (b : Addr) (kvs : List (List Key × V)), y = .ref b ∧ H5 b = some (.tup (k.map kV)) ∧ H5 D = some (.dT kvs) ∧ kvs.length < sizeLine ∧ Nx (upd H5 D (.dT (putK kvs k z))) else Nx H3)
theorem dt_core {pins : List (Addr × Obj)} {s : Shared} {σ : L2.St} {H : Hp} {Q : VK} {kx vx tg iter : Expr} {ifs : List Expr} {scope : Scope} {own : List (PySem.Str × Nat)} {pos pos' : Pos} {wi : TI} {g : TG} {tt : TT} {tk tv : TE} {use : Option (Value → Sem Unit)} {Qf : Value → Shared → Prop}
    (hu : X.A.units < cLine) (calm : X.calm = true) (nd : X.N.Nodup) (I : Inv X pins σ H s) (hi : PI X tg iter wi) (bk : BlkOk X.N X.env.scope scope own)
    (pg : ∀ (s : Shared) (H : Hp) (C : Addr) (cl : List (PySem.Str × Addr)) (fp : List Addr), PG (X.blk s H scope (compEnvC scope cl C X.env) fp) tg g) (pt : ∀ (s : Shared) (H : Hp) (C : Addr) (cl : List (PySem.Str × Addr)) (fp : List Addr), PTs (X.blk s H scope (compEnvC scope cl C X.env) fp) ifs tt)
    (pk : ∀ (s : Shared) (H : Hp) (C : Addr) (cl : List (PySem.Str × Addr)) (fp : List Addr), PE (X.blk s H scope (compEnvC scope cl C X.env) fp) kx tk) (pe : ∀ (s : Shared) (H : Hp) (C : Addr) (cl : List (PySem.Str × Addr)) (fp : List Addr), PE (X.blk s H scope (compEnvC scope cl C X.env) fp) vx tv) (fold : ∀ x, foldedSetIterable iter X.env x = pure x) (h : tDcT wi g tt tk tv (own.map (·.2)) σ H Q)
    (post : ∀ D C s' m H', Inv X pins σ H' s' → Q (.ref D) H' → s'.heap.Ns C m → FpOk X pins H' C → compPost (model X.prog X.w) X.A X.xe use Qf (.ref D) C (.ok .next) s') :
    wpAny (model X.prog X.w) X.A (comprehension (.DictComp kx vx [⟨tg, iter, ifs, 0⟩] scope pos) scope X.env pos' newDict false (eval iter X.env) use) Qf X.xe s := by
  have caps : ∀ y ∈ scope.names, y.2 = .free → ∃ c, X.env.cells.lookup y.1 = some c := fun y hy e => (bk.free y hy e).elim (fun k => I.ok.has _ (.inl k)) fun k => I.ok.has _ (.inr k)
  refine wpAny_comprehension_free (use := use) rfl fold (closure_ok caps) bk.kind (fun y hy e => by rw [bk.uniq y hy, e]) (thn (hi.run pins s σ H _ I h) fun xv s1 hx => thn hx fun itv s2 ⟨it, fp, tn, J, H2, e, I2, T, st2, f2, q⟩ => ?_)
  subst e
  refine wpAny_newObj_type (newEnv_comp ?_)
  generalize eD : s2.heap.objs.size = D
  obtain ⟨W, ⟨m0, w0⟩, turn⟩ := q D (I2.hok.fresh (Nat.le_of_eq eD))
  generalize es3 : ({ s2 with heap := s2.heap.push { cls := .type "dict", data := .dict #[] } } : Shared) = s3
  have hp3 : s3.heap = s2.heap.push { cls := .type "dict", data := .dict #[] } := by rw [← es3]
  have I3 : Inv X pins σ (upd H2 D (.dT [])) s3 := by
    rw [← es3]
    refine I2.laid (t' := s2.toks) (fun b o e => Heap.get?_push_of_some _ e) (Nat.le_of_eq eD) ?_
    rw [← eD]
    exact dt_empty s2.heap I2.big
  have sz : ∀ b ∈ fp, b < s2.heap.objs.size := fun b hb => by
    obtain ⟨o, e, _⟩ := T.obj _ _ st2 b hb
    exact Heap.lt_size e
  generalize eH3 : upd H2 D (.dT []) = H3 at I3 w0
  have f3 : ∀ b ∈ fp, FpOk X pins H3 b ∧ b < s3.heap.objs.size := fun b hb => by
    have lt := sz b hb
    refine ⟨⟨?_, (f2 b hb).2⟩, by rw [hp3, Heap.size_push]; exact Nat.lt_succ_of_lt lt⟩
    rw [← eH3, upd_ne (by rw [← eD]; exact Nat.ne_of_lt lt)]
    exact (f2 b hb).1
  have st3 : tn 0 s3.heap := T.keep _ _ _ st2 fun b _ o e => by rw [hp3]; exact Heap.get?_push_of_some _ e
  have I4 := block_start I3 bk nd f3
  have pg := pg s3 H3 s3.heap.objs.size (cellsFrom (s3.heap.objs.size + 1) scope.names (cloFrom X.env.cells scope.names [])) fp
  have pt := pt s3 H3 s3.heap.objs.size (cellsFrom (s3.heap.objs.size + 1) scope.names (cloFrom X.env.cells scope.names [])) fp
  have pk := pk s3 H3 s3.heap.objs.size (cellsFrom (s3.heap.objs.size + 1) scope.names (cloFrom X.env.cells scope.names [])) fp
  have pe := pe s3 H3 s3.heap.objs.size (cellsFrom (s3.heap.objs.size + 1) scope.names (cloFrom X.env.cells scope.names [])) fp
  show codeAny _ _ (.compStart (.DictComp kx vx [⟨tg, iter, ifs, 0⟩] scope pos) 0 (.ref it) (.ref D) (compEnvC scope (cellsFrom (s3.heap.objs.size + 1) scope.names (cloFrom X.env.cells scope.names [])) s3.heap.objs.size X.env)) (compPost (model X.prog X.w) X.A X.xe use Qf (.ref D) s3.heap.objs.size) { s3 with heap := pushCells (s3.heap.push { cls := .type "dict", data := .dict #[] }) scope.names }
  have nf : ∀ b ∈ fp, H3 b = none := fun b hb => (f3 b hb).1.1
  generalize hce : compEnvC scope (cellsFrom (s3.heap.objs.size + 1) scope.names (cloFrom X.env.cells scope.names [])) s3.heap.objs.size X.env = ce at I4 pg pt pk pe ⊢
  have cl : ce.locals = s3.heap.objs.size := by
    subst hce
    rfl
  generalize hs4 : ({ s3 with heap := pushCells (s3.heap.push { cls := .type "dict", data := .dict #[] }) scope.names } : Shared) = s4 at I4 ⊢
  have st4 : tn 0 s4.heap := T.keep _ _ _ st3 fun b _ o e => by rw [← hs4]; exact pushCells_keeps _ _ _ _ (Heap.get?_push_of_some _ e)
  have stat : ∀ {σ' : L2.St} {H' : Hp} {s' : Shared}, Inv (X.blk s3 H3 scope ce fp) [] σ' H' s' → (∀ b ∈ fp, H' b = none) → ∀ b ∈ fp, FpOk (X.blk s3 H3 scope ce fp) [] H' b := fun J hn b hb =>
    ⟨hn b hb, (J.ok.exf b hb).1, J.ok.exfs b hb, .inl hb, fun x c e => (J.ok.exf b hb).2 x c e, fun p hp => absurd (show p ∈ ([] : List (Addr × Obj)) ++ [] from hp) (by simp)⟩
  refine codeAny_compStart_dict ?L (T.self X.A 0 _ _ _ st4 ?L)
  refine compLoop_anyD (fun n s' => ∃ i H', Inv (X.blk s3 H3 scope ce fp) [] (wipe σ (own.map (·.2))) H' s' ∧ tn i s'.heap ∧ (∀ b ∈ fp, H' b = none) ∧ W i n H') ?_ m0 ⟨0, H3, I4, st4, nf, w0⟩
  rintro n s5 ⟨i, H5, I5, st5, n5, w5⟩
  rcases turn i n H5 w5 with ⟨stop, qq⟩ | ⟨go, Nx, hNx, step⟩
  · refine thnF (T.done (X.blk s3 H3 scope ce fp) rfl rfl rfl calm i [] s5 _ H5 (fun _ _ => False) I5 (stat I5 n5) st5 stop) fun r s6 ⟨hr, I6⟩ => ?_
    subst hr
    have I7 : Inv X pins σ H5 s6 := I3.call' (ch := fp) I6.os I6.base I6.hok I6.bare fun b hb => ⟨(f3 b hb).1.2.2.2.1, (f3 b hb).1.2.1, (f3 b hb).1.2.2.2.2.1, (f3 b hb).1.2.2.2.2.2⟩
    have nC : H5 s3.heap.objs.size = none := by
      have z : H5 ce.locals = none := I6.free
      rw [cl] at z
      exact z
    obtain ⟨m, hn, _⟩ := I6.loc
    have hn : s6.heap.Ns ce.locals m := hn
    rw [cl] at hn
    exact post D s3.heap.objs.size s6 m H5 I7 qq hn (I3.fpOk (Nat.le_refl _) nC)
  · refine thnF (T.item (X.blk s3 H3 scope ce fp) rfl rfl rfl calm i [] s5 _ H5 (fun _ _ => False) I5 (stat I5 n5) st5 go) fun r s6 ⟨u, hr, h6⟩ => ?_
    subst hr
    refine thnF h6 fun _ s7 ⟨x, H7, I7, r7, y7, st7, n7⟩ => ?_
    have J7 := I7.pinned (stat I7 n7) (T.obj _ _ st7)
    refine thnF (pg.run _ s7 _ H7 x u _ J7 r7 (step x H7 y7)) fun _ s8 ⟨σ8, H8, I8, hw8, q8⟩ => thnF (pt.run _ s8 σ8 H8 _ I8 q8) fun b s9 ⟨H9, I9, q9⟩ => ?_
    have fin : ∀ {s' : Shared} {H' : Hp}, Inv (X.blk s3 H3 scope ce fp) ([] ++ pinsAt fp s7.heap) σ8 H' s' → Nx H' → ∃ m, m < n ∧ ∃ i H', Inv (X.blk s3 H3 scope ce fp) [] (wipe σ (own.map (·.2))) H' s' ∧ tn i s'.heap ∧ (∀ b ∈ fp, H' b = none) ∧ W i m H' := fun {s' H'} J nx => by
      obtain ⟨m', hm, w'⟩ := hNx H' nx
      have pin : ∀ b ∈ fp, ∀ o, s7.heap.get? b = some o → s'.heap.get? b = some o ∧ H' b = none := fun b hb o e =>
        let z := J.pin (b, o) (List.mem_append_right _ (List.mem_append_right _ (mem_pinsAt hb e)))
        ⟨z.1, z.2.1⟩
      refine ⟨m', hm, i + 1, H', (J.unpinned (pins := [])).weak (by rw [← hw8, wipe_length]) (fun j v e => ?_), T.keep _ _ _ st7 fun b hb o e => (pin b hb o e).1, fun b hb => ?_, w'⟩
      · rw [← hw8] at e
        exact (wipe_some e).1
      · obtain ⟨o, e, _⟩ := T.obj _ _ st7 b hb
        exact (pin b hb o e).2
    cases b with
    | false =>
      simp only [Bool.false_eq_true, if_false] at q9 ⊢
      exact fin I9 q9
    | true =>
      simp only [if_true] at q9 ⊢
      refine thnF (pk.run _ s9 σ8 H9 _ I9 q9) fun z s10 ⟨yk, H10, I10, r10, q10⟩ => ?_
      refine thnF (pe.run _ s10 σ8 H10 _ I10 q10) fun z2 s11 ⟨yv, H11, I11, r11, k0, b0, kvs0, ey, hb0, hD11, hz11, nx⟩ => ?_
      subst ey
      cases r10
      exact dT_set (X := X.blk s3 H3 scope ce fp) hu I11 hD11 hb0 hz11 r11 fun s12 I12 => fin I12 nx
theorem pe_dcT {kx vx tg iter : Expr} {ifs : List Expr} {scope : Scope} {own : List (PySem.Str × Nat)} {pos : Pos} {wi : TI} {g : TG} {tt : TT} {tk tv : TE} (hu : X.A.units < cLine) (calm : X.calm = true) (nd : X.N.Nodup) (hi : PI X tg iter wi) (bk : BlkOk X.N X.env.scope scope own)
    (pg : ∀ (s : Shared) (H : Hp) (C : Addr) (cl : List (PySem.Str × Addr)) (fp : List Addr), PG (X.blk s H scope (compEnvC scope cl C X.env) fp) tg g) (pt : ∀ (s : Shared) (H : Hp) (C : Addr) (cl : List (PySem.Str × Addr)) (fp : List Addr), PTs (X.blk s H scope (compEnvC scope cl C X.env) fp) ifs tt)
    (pk : ∀ (s : Shared) (H : Hp) (C : Addr) (cl : List (PySem.Str × Addr)) (fp : List Addr), PE (X.blk s H scope (compEnvC scope cl C X.env) fp) kx tk) (pe : ∀ (s : Shared) (H : Hp) (C : Addr) (cl : List (PySem.Str × Addr)) (fp : List Addr), PE (X.blk s H scope (compEnvC scope cl C X.env) fp) vx tv) (fold : ∀ x, foldedSetIterable iter X.env x = pure x := by intro _; rfl) :
    PE X (.DictComp kx vx [⟨tg, iter, ifs, 0⟩] scope pos) (tDcT wi g tt tk tv (own.map (·.2))) := by
  refine ⟨fun pins s σ H Q I h => ?_⟩
  rw [arm_eval_DictComp]
  refine dt_core hu calm nd I hi bk pg pt pk pe fold h fun D C s' m H' J q hn ⟨f0, f1, f2, f3, f4, f5⟩ => ⟨m, hn, fun h'' sb => ?_⟩
  exact ⟨.ref D, H', J.turned (t' := s'.toks) (fun b o hb e => (sb.2 b hb).trans e) f0 f1 f3 f4 f5, rfl, q⟩
end
end KB
/-! ## KE4 -/
set_option Elab.async false
set_option linter.all false
set_option maxRecDepth 100000
set_option maxHeartbeats 4000000
namespace KB
open PySem PySem.Spec PyProof.Rows L2 Evl RZ SeqAt
section
variable {X : Cx}
/-- s * n -/
def rRepV : R2 := fun x y H Q => ∃ (s : Str) (n : Int), x = .str s ∧ y = .int n ∧ 0 ≤ n ∧ n ≤ 1000 ∧ s.length ≤ 1000 ∧ ∀ z : Str, z.length ≤ s.length * n.toNat → (∀ c ∈ z.cps.toList, c ∈ s.cps.toList) → Q (.str z) H
theorem op_repV : OpR X (binaryOp .Mult) rRepV := by
  intro pins s σ H x y v u Q I rx ry h
  obtain ⟨z, n, rfl, rfl, h1, h2, h3, q⟩ := h
  obtain ⟨t1, rfl⟩ := rx
  obtain ⟨t2, rfl⟩ := ry
  have hlen : ∀ (k : Nat) (a : Array Nat), ((List.replicate k z.cps).foldl (· ++ ·) a).size = a.size + z.length * k := by
    intro k
    induction k with
    | zero => intro a; simp
    | succ k ih =>
      intro a
      rw [List.replicate_succ, List.foldl_cons, ih, Array.size_append, Nat.mul_succ]
      show a.size + z.cps.size + z.length * k = a.size + (z.length * k + z.length)
      have : z.length = z.cps.size := rfl
      omega
  have hmem : ∀ (k : Nat) (a : Array Nat) (c : Nat), c ∈ ((List.replicate k z.cps).foldl (· ++ ·) a).toList → c ∈ a.toList ∨ c ∈ z.cps.toList := by
    intro k
    induction k with
    | zero => intro a c h; exact .inl h
    | succ k ih =>
      intro a c h
      rw [List.replicate_succ, List.foldl_cons] at h
      rcases ih _ c h with h | h
      · rw [Array.toList_append] at h
        exact List.mem_append.mp h
      · exact .inr h
  have hone : ¬ n < 1 → (n == 1 || z.length == 0) = true → z.length ≤ z.length * n.toNat := fun h _ => Nat.le_mul_of_pos_right _ (by omega)
  have hb : z.length * n.toNat ≤ 1000 * 1000 := Nat.mul_le_mul h3 (by omega)
  refine P.mul_str (by
    rw [decide_eq_false (by omega), decide_eq_false (by omega)]
    rfl) (fun h4 _ => ?_) (fun _ _ => ?_) ?_
  · have h5 : (z.length : Int) * n ≤ 1000 * 1000 := Int.mul_le_mul (by omega) h2 h1 (by decide)
    have h6 : (z.length : Int) ≤ (2 ^ 63 - 1) / n := Int.le_ediv_of_mul_le (by omega) (by omega)
    omega
  · show decide (_ > sizeLine) = false
    rw [sizeLine_eq]
    exact decide_eq_false (by omega)
  · split
    · exact ⟨by decide, ⟨.str Str.empty, H, I.tok _, ⟨_, rfl⟩, q _ (Nat.zero_le _) (fun c hc => by simp [Str.empty] at hc)⟩⟩
    · split
      · exact ⟨.str z, H, I, ⟨_, rfl⟩, q _ (hone (by assumption) (by assumption)) (fun c hc => hc)⟩
      · refine ⟨?_, ⟨.str ⟨(List.replicate n.toNat z.cps).foldl (· ++ ·) #[]⟩, H, I.tok _, ⟨_, rfl⟩, q _ ?_ (fun c hc => (hmem n.toNat #[] c hc).resolve_left (by simp))⟩⟩
        · show ((List.replicate n.toNat z.cps).foldl (· ++ ·) #[]).size ≤ sizeLine
          rw [hlen, sizeLine_eq]
          simp only [List.size_toArray, List.length_nil, Nat.zero_add]
          omega
        · show ((List.replicate n.toNat z.cps).foldl (· ++ ·) #[]).size ≤ _
          rw [hlen]
          simp
end
end KB
/-! ## KE5 -/
set_option Elab.async false
set_option linter.all false
set_option maxRecDepth 100000
set_option maxHeartbeats 4000000
namespace KB
open PySem PySem.Spec PyProof.Rows L2 Evl RZ SeqAt
section
variable {X : Cx}
/-- s * n -/
def rRepE : R2 := fun x y H Q => ∃ (s : Str) (n : Int), x = .str s ∧ y = .int n ∧ 0 ≤ n ∧ n ≤ 1000 ∧ s.length ≤ 1000 ∧ ∀ z : Str, z.length = s.length * n.toNat → (∀ c ∈ z.cps.toList, c ∈ s.cps.toList) → Q (.str z) H
theorem op_repE : OpR X (binaryOp .Mult) rRepE := by
  intro pins s σ H x y v u Q I rx ry h
  obtain ⟨z, n, rfl, rfl, h1, h2, h3, q⟩ := h
  obtain ⟨t1, rfl⟩ := rx
  obtain ⟨t2, rfl⟩ := ry
  have hlen : ∀ (k : Nat) (a : Array Nat), ((List.replicate k z.cps).foldl (· ++ ·) a).size = a.size + z.length * k := by
    intro k
    induction k with
    | zero => intro a; simp
    | succ k ih =>
      intro a
      rw [List.replicate_succ, List.foldl_cons, ih, Array.size_append, Nat.mul_succ]
      show a.size + z.cps.size + z.length * k = a.size + (z.length * k + z.length)
      have : z.length = z.cps.size := rfl
      omega
  have hmem : ∀ (k : Nat) (a : Array Nat) (c : Nat), c ∈ ((List.replicate k z.cps).foldl (· ++ ·) a).toList → c ∈ a.toList ∨ c ∈ z.cps.toList := by
    intro k
    induction k with
    | zero => intro a c h; exact .inl h
    | succ k ih =>
      intro a c h
      rw [List.replicate_succ, List.foldl_cons] at h
      rcases ih _ c h with h | h
      · rw [Array.toList_append] at h
        exact List.mem_append.mp h
      · exact .inr h
  have hone : ¬ n < 1 → (n == 1 || z.length == 0) = true → z.length = z.length * n.toNat := fun h hh => by
    rcases Bool.or_eq_true_iff.mp hh with hh | hh
    · have : n = 1 := eq_of_beq hh
      subst this
      simp
    · have : z.length = 0 := eq_of_beq hh
      rw [this, Nat.zero_mul]
  have hb : z.length * n.toNat ≤ 1000 * 1000 := Nat.mul_le_mul h3 (by omega)
  refine P.mul_str (by
    rw [decide_eq_false (by omega), decide_eq_false (by omega)]
    rfl) (fun h4 _ => ?_) (fun _ _ => ?_) ?_
  · have h5 : (z.length : Int) * n ≤ 1000 * 1000 := Int.mul_le_mul (by omega) h2 h1 (by decide)
    have h6 : (z.length : Int) ≤ (2 ^ 63 - 1) / n := Int.le_ediv_of_mul_le (by omega) (by omega)
    omega
  · show decide (_ > sizeLine) = false
    rw [sizeLine_eq]
    exact decide_eq_false (by omega)
  · split
    · exact ⟨by decide, ⟨.str Str.empty, H, I.tok _, ⟨_, rfl⟩, q _ (by rw [show n.toNat = 0 by omega]; rfl) (fun c hc => by simp [Str.empty] at hc)⟩⟩
    · split
      · exact ⟨.str z, H, I, ⟨_, rfl⟩, q _ (hone (by assumption) (by assumption)) (fun c hc => hc)⟩
      · refine ⟨?_, ⟨.str ⟨(List.replicate n.toNat z.cps).foldl (· ++ ·) #[]⟩, H, I.tok _, ⟨_, rfl⟩, q _ ?_ (fun c hc => (hmem n.toNat #[] c hc).resolve_left (by simp))⟩⟩
        · show ((List.replicate n.toNat z.cps).foldl (· ++ ·) #[]).size ≤ sizeLine
          rw [hlen, sizeLine_eq]
          simp only [List.size_toArray, List.length_nil, Nat.zero_add]
          omega
        · show ((List.replicate n.toNat z.cps).foldl (· ++ ·) #[]).size = _
          rw [hlen]
          simp
end
end KB
/-! ## KT -/
set_option Elab.async false
set_option linter.all false
set_option maxRecDepth 100000
set_option maxHeartbeats 4000000
namespace K0
open PySem PySem.Spec PyProof.Rows L2
def top (i : Nat) : Stmt := PySem.Challenge.pw_everyanswer_k04_paths_are_the_ascending.main.body.getD i (.Pass ⟨0, 0, 0, 0⟩)
abbrev s__wall : Stmt := top 0
abbrev N__wall : List Str := ["k"]
theorem c__wall : FnScope N__wall ["k"] (defScope s__wall) := ⟨rfl, rfl, rfl, by decide +kernel, rfl, by decide +kernel, by decide +kernel⟩
def d__wall : He.DefD := ⟨("_wall", none), "_wall", "_wall", defArgs s__wall, defBody s__wall, defScope s__wall, [], []⟩
abbrev s_NoProgram_init : Stmt := inClass (top 5) 0
abbrev N_NoProgram_init : List Str := ["self", "path"]
theorem c_NoProgram_init : FnScope N_NoProgram_init ["self", "path"] (defScope s_NoProgram_init) := ⟨rfl, rfl, rfl, by decide +kernel, rfl, by decide +kernel, by decide +kernel⟩
def d_NoProgram_init : He.DefD := ⟨("NoProgram", some "__init__"), "__init__", "NoProgram.__init__", defArgs s_NoProgram_init, defBody s_NoProgram_init, defScope s_NoProgram_init, [], []⟩
abbrev s_is_integer : Stmt := top 18
abbrev N_is_integer : List Str := ["thing"]
theorem c_is_integer : FnScope N_is_integer ["thing"] (defScope s_is_integer) := ⟨rfl, rfl, rfl, by decide +kernel, rfl, by decide +kernel, by decide +kernel⟩
def d_is_integer : He.DefD := ⟨("is_integer", none), "is_integer", "is_integer", defArgs s_is_integer, defBody s_is_integer, defScope s_is_integer, [], []⟩
abbrev s_is_integers : Stmt := top 19
abbrev N_is_integers : List Str := ["thing", "part"]
theorem c_is_integers : FnScope N_is_integers ["thing"] (defScope s_is_integers) := ⟨rfl, rfl, rfl, by decide +kernel, rfl, by decide +kernel, by decide +kernel⟩
def d_is_integers : He.DefD := ⟨("is_integers", none), "is_integers", "is_integers", defArgs s_is_integers, defBody s_is_integers, defScope s_is_integers, [], []⟩
abbrev s_is_name : Stmt := top 20
abbrev N_is_name : List Str := ["thing", "sign"]
theorem c_is_name : FnScope N_is_name ["thing"] (defScope s_is_name) := ⟨rfl, rfl, rfl, by decide +kernel, rfl, by decide +kernel, by decide +kernel⟩
def d_is_name : He.DefD := ⟨("is_name", none), "is_name", "is_name", defArgs s_is_name, defBody s_is_name, defScope s_is_name, [], []⟩
abbrev s_is_phrase : Stmt := top 21
abbrev N_is_phrase : List Str := ["thing", "sign"]
theorem c_is_phrase : FnScope N_is_phrase ["thing"] (defScope s_is_phrase) := ⟨rfl, rfl, rfl, by decide +kernel, rfl, by decide +kernel, by decide +kernel⟩
def d_is_phrase : He.DefD := ⟨("is_phrase", none), "is_phrase", "is_phrase", defArgs s_is_phrase, defBody s_is_phrase, defScope s_is_phrase, [], []⟩
abbrev s_is_written_number : Stmt := top 22
abbrev N_is_written_number : List Str := ["thing"]
theorem c_is_written_number : FnScope N_is_written_number ["thing"] (defScope s_is_written_number) := ⟨rfl, rfl, rfl, by decide +kernel, rfl, by decide +kernel, by decide +kernel⟩
def d_is_written_number : He.DefD := ⟨("is_written_number", none), "is_written_number", "is_written_number", defArgs s_is_written_number, defBody s_is_written_number, defScope s_is_written_number, [], []⟩
abbrev s_is_sign : Stmt := top 23
abbrev N_is_sign : List Str := ["thing"]
theorem c_is_sign : FnScope N_is_sign ["thing"] (defScope s_is_sign) := ⟨rfl, rfl, rfl, by decide +kernel, rfl, by decide +kernel, by decide +kernel⟩
def d_is_sign : He.DefD := ⟨("is_sign", none), "is_sign", "is_sign", defArgs s_is_sign, defBody s_is_sign, defScope s_is_sign, [], []⟩
abbrev s_is_how : Stmt := top 24
abbrev N_is_how : List Str := ["thing"]
theorem c_is_how : FnScope N_is_how ["thing"] (defScope s_is_how) := ⟨rfl, rfl, rfl, by decide +kernel, rfl, by decide +kernel, by decide +kernel⟩
def d_is_how : He.DefD := ⟨("is_how", none), "is_how", "is_how", defArgs s_is_how, defBody s_is_how, defScope s_is_how, [], []⟩
abbrev s_is_perhaps_name : Stmt := top 25
abbrev N_is_perhaps_name : List Str := ["thing"]
theorem c_is_perhaps_name : FnScope N_is_perhaps_name ["thing"] (defScope s_is_perhaps_name) := ⟨rfl, rfl, rfl, by decide +kernel, rfl, by decide +kernel, by decide +kernel⟩
def d_is_perhaps_name : He.DefD := ⟨("is_perhaps_name", none), "is_perhaps_name", "is_perhaps_name", defArgs s_is_perhaps_name, defBody s_is_perhaps_name, defScope s_is_perhaps_name, [], []⟩
abbrev s_is_block : Stmt := top 26
abbrev N_is_block : List Str := ["thing"]
theorem c_is_block : FnScope N_is_block ["thing"] (defScope s_is_block) := ⟨rfl, rfl, rfl, by decide +kernel, rfl, by decide +kernel, by decide +kernel⟩
def d_is_block : He.DefD := ⟨("is_block", none), "is_block", "is_block", defArgs s_is_block, defBody s_is_block, defScope s_is_block, [], []⟩
abbrev s_is_parameters : Stmt := top 27
abbrev N_is_parameters : List Str := ["thing", "part"]
theorem c_is_parameters : FnScope N_is_parameters ["thing"] (defScope s_is_parameters) := ⟨rfl, rfl, rfl, by decide +kernel, rfl, by decide +kernel, by decide +kernel⟩
def d_is_parameters : He.DefD := ⟨("is_parameters", none), "is_parameters", "is_parameters", defArgs s_is_parameters, defBody s_is_parameters, defScope s_is_parameters, [], []⟩
abbrev s_is_method : Stmt := top 28
abbrev N_is_method : List Str := ["thing"]
theorem c_is_method : FnScope N_is_method ["thing"] (defScope s_is_method) := ⟨rfl, rfl, rfl, by decide +kernel, rfl, by decide +kernel, by decide +kernel⟩
def d_is_method : He.DefD := ⟨("is_method", none), "is_method", "is_method", defArgs s_is_method, defBody s_is_method, defScope s_is_method, [], []⟩
abbrev s_is_methods : Stmt := top 29
abbrev N_is_methods : List Str := ["thing", "part"]
theorem c_is_methods : FnScope N_is_methods ["thing"] (defScope s_is_methods) := ⟨rfl, rfl, rfl, by decide +kernel, rfl, by decide +kernel, by decide +kernel⟩
def d_is_methods : He.DefD := ⟨("is_methods", none), "is_methods", "is_methods", defArgs s_is_methods, defBody s_is_methods, defScope s_is_methods, [], []⟩
abbrev s_is_expressions : Stmt := top 30
abbrev N_is_expressions : List Str := ["thing", "most", "depth", "part"]
theorem c_is_expressions : FnScope N_is_expressions ["thing", "most", "depth"] (defScope s_is_expressions) := ⟨rfl, rfl, rfl, by decide +kernel, rfl, by decide +kernel, by decide +kernel⟩
def d_is_expressions : He.DefD := ⟨("is_expressions", none), "is_expressions", "is_expressions", defArgs s_is_expressions, defBody s_is_expressions, defScope s_is_expressions, [], []⟩
abbrev s_is_row : Stmt := top 31
abbrev N_is_row : List Str := ["thing", "depth", "part"]
theorem c_is_row : FnScope N_is_row ["thing", "depth"] (defScope s_is_row) := ⟨rfl, rfl, rfl, by decide +kernel, rfl, by decide +kernel, by decide +kernel⟩
def d_is_row : He.DefD := ⟨("is_row", none), "is_row", "is_row", defArgs s_is_row, defBody s_is_row, defScope s_is_row, [], []⟩
abbrev s_is_rows : Stmt := top 32
abbrev N_is_rows : List Str := ["thing", "depth", "part"]
theorem c_is_rows : FnScope N_is_rows ["thing", "depth"] (defScope s_is_rows) := ⟨rfl, rfl, rfl, by decide +kernel, rfl, by decide +kernel, by decide +kernel⟩
def d_is_rows : He.DefD := ⟨("is_rows", none), "is_rows", "is_rows", defArgs s_is_rows, defBody s_is_rows, defScope s_is_rows, [], []⟩
abbrev s_is_part : Stmt := top 33
abbrev N_is_part : List Str := ["kind", "thing", "depth", "check"]
theorem c_is_part : FnScope N_is_part ["kind", "thing", "depth"] (defScope s_is_part) := ⟨rfl, rfl, rfl, by decide +kernel, rfl, by decide +kernel, by decide +kernel⟩
def d_is_part : He.DefD := ⟨("is_part", none), "is_part", "is_part", defArgs s_is_part, defBody s_is_part, defScope s_is_part, [], []⟩
abbrev s_first_word : Stmt := top 35
abbrev N_first_word : List Str := ["thing"]
theorem c_first_word : FnScope N_first_word ["thing"] (defScope s_first_word) := ⟨rfl, rfl, rfl, by decide +kernel, rfl, by decide +kernel, by decide +kernel⟩
def d_first_word : He.DefD := ⟨("first_word", none), "first_word", "first_word", defArgs s_first_word, defBody s_first_word, defScope s_first_word, [], []⟩
abbrev s_has_parts : Stmt := top 36
abbrev N_has_parts : List Str := ["thing", "kinds", "depth", "kind", "part"]
theorem c_has_parts : FnScope N_has_parts ["thing", "kinds", "depth"] (defScope s_has_parts) := ⟨rfl, rfl, rfl, by decide +kernel, rfl, by decide +kernel, by decide +kernel⟩
def d_has_parts : He.DefD := ⟨("has_parts", none), "has_parts", "has_parts", defArgs s_has_parts, defBody s_has_parts, defScope s_has_parts, [], []⟩
abbrev s_is_expression : Stmt := top 37
abbrev N_is_expression : List Str := ["thing", "depth"]
theorem c_is_expression : FnScope N_is_expression ["thing", "depth"] (defScope s_is_expression) := ⟨rfl, rfl, rfl, by decide +kernel, rfl, by decide +kernel, by decide +kernel⟩
def d_is_expression : He.DefD := ⟨("is_expression", none), "is_expression", "is_expression", defArgs s_is_expression, defBody s_is_expression, defScope s_is_expression, [], []⟩
abbrev s_is_statement : Stmt := top 38
abbrev N_is_statement : List Str := ["thing", "word"]
theorem c_is_statement : FnScope N_is_statement ["thing"] (defScope s_is_statement) := ⟨rfl, rfl, rfl, by decide +kernel, rfl, by decide +kernel, by decide +kernel⟩
def d_is_statement : He.DefD := ⟨("is_statement", none), "is_statement", "is_statement", defArgs s_is_statement, defBody s_is_statement, defScope s_is_statement, [], []⟩
abbrev s_expressions_of : Stmt := top 39
abbrev N_expressions_of : List Str := ["statement", "out", "kind", "part"]
theorem c_expressions_of : FnScope N_expressions_of ["statement"] (defScope s_expressions_of) := ⟨rfl, rfl, rfl, by decide +kernel, rfl, by decide +kernel, by decide +kernel⟩
def d_expressions_of : He.DefD := ⟨("expressions_of", none), "expressions_of", "expressions_of", defArgs s_expressions_of, defBody s_expressions_of, defScope s_expressions_of, [], []⟩
abbrev s_blocks_of : Stmt := top 40
abbrev N_blocks_of : List Str := ["statement", "out", "kind", "part", "method"]
theorem c_blocks_of : FnScope N_blocks_of ["statement"] (defScope s_blocks_of) := ⟨rfl, rfl, rfl, by decide +kernel, rfl, by decide +kernel, by decide +kernel⟩
def d_blocks_of : He.DefD := ⟨("blocks_of", none), "blocks_of", "blocks_of", defArgs s_blocks_of, defBody s_blocks_of, defScope s_blocks_of, [], []⟩
abbrev s_has_above : Stmt := top 41
abbrev N_has_above : List Str := ["thing", "part"]
theorem c_has_above : FnScope N_has_above ["thing"] (defScope s_has_above) := ⟨rfl, rfl, rfl, by decide +kernel, rfl, by decide +kernel, by decide +kernel⟩
def d_has_above : He.DefD := ⟨("has_above", none), "has_above", "has_above", defArgs s_has_above, defBody s_has_above, defScope s_has_above, [], []⟩
abbrev s_fresh : Stmt := top 42
abbrev N_fresh : List Str := ["thing", "part"]
theorem c_fresh : FnScope N_fresh ["thing"] (defScope s_fresh) := ⟨rfl, rfl, rfl, by decide +kernel, rfl, by decide +kernel, by decide +kernel⟩
def d_fresh : He.DefD := ⟨("fresh", none), "fresh", "fresh", defArgs s_fresh, defBody s_fresh, defScope s_fresh, [], []⟩
abbrev s_Place_init : Stmt := inClass (top 47) 0
abbrev N_Place_init : List Str := ["self", "depth", "routine", "looping"]
theorem c_Place_init : FnScope N_Place_init ["self", "depth", "routine", "looping"] (defScope s_Place_init) := ⟨rfl, rfl, rfl, by decide +kernel, rfl, by decide +kernel, by decide +kernel⟩
def d_Place_init : He.DefD := ⟨("Place", some "__init__"), "__init__", "Place.__init__", defArgs s_Place_init, defBody s_Place_init, defScope s_Place_init, [], []⟩
abbrev s_top_place : Stmt := top 48
abbrev N_top_place : List Str := []
theorem c_top_place : FnScope N_top_place [] (defScope s_top_place) := ⟨rfl, rfl, rfl, by decide +kernel, rfl, by decide +kernel, by decide +kernel⟩
def d_top_place : He.DefD := ⟨("top_place", none), "top_place", "top_place", defArgs s_top_place, defBody s_top_place, defScope s_top_place, [], []⟩
abbrev s_inner_place : Stmt := top 49
abbrev N_inner_place : List Str := ["place", "word"]
theorem c_inner_place : FnScope N_inner_place ["place", "word"] (defScope s_inner_place) := ⟨rfl, rfl, rfl, by decide +kernel, rfl, by decide +kernel, by decide +kernel⟩
def d_inner_place : He.DefD := ⟨("inner_place", none), "inner_place", "inner_place", defArgs s_inner_place, defBody s_inner_place, defScope s_inner_place, [], []⟩
abbrev s_fits : Stmt := top 50
abbrev N_fits : List Str := ["statement", "place", "word"]
theorem c_fits : FnScope N_fits ["statement", "place"] (defScope s_fits) := ⟨rfl, rfl, rfl, by decide +kernel, rfl, by decide +kernel, by decide +kernel⟩
def d_fits : He.DefD := ⟨("fits", none), "fits", "fits", defArgs s_fits, defBody s_fits, defScope s_fits, [], []⟩
abbrev s__rows : Stmt := top 51
abbrev N__rows : List Str := ["block", "at", "place", "index", "thing"]
theorem c__rows : FnScope N__rows ["block", "at", "place"] (defScope s__rows) := ⟨rfl, rfl, rfl, by decide +kernel, rfl, by decide +kernel, by decide +kernel⟩
def d__rows : He.DefD := ⟨("_rows", none), "_rows", "_rows", defArgs s__rows, defBody s__rows, defScope s__rows, [], []⟩
abbrev s_survey : Stmt := top 52
abbrev N_survey : List Str := ["block", "found", "waiting", "path", "thing", "place", "inner", "around", "number", "part"]
theorem c_survey : FnScope N_survey ["block"] (defScope s_survey) := ⟨rfl, rfl, rfl, by decide +kernel, rfl, by decide +kernel, by decide +kernel⟩
def d_survey : He.DefD := ⟨("survey", none), "survey", "survey", defArgs s_survey, defBody s_survey, defScope s_survey, [], []⟩
abbrev s_Layout_init : Stmt := inClass (top 53) 0
abbrev N_Layout_init : List Str := ["self", "block", "rows", "_", "path", "statement", "number", "parameters", "body"]
theorem c_Layout_init : FnScope N_Layout_init ["self", "block"] (defScope s_Layout_init) := ⟨rfl, rfl, rfl, by decide +kernel, rfl, by decide +kernel, by decide +kernel⟩
def d_Layout_init : He.DefD := ⟨("Layout", some "__init__"), "__init__", "Layout.__init__", defArgs s_Layout_init, defBody s_Layout_init, defScope s_Layout_init, [], []⟩
abbrev s_Layout_keep : Stmt := inClass (top 53) 1
abbrev N_Layout_keep : List Str := ["self", "code", "parameters", "body"]
theorem c_Layout_keep : FnScope N_Layout_keep ["self", "code", "parameters", "body"] (defScope s_Layout_keep) := ⟨rfl, rfl, rfl, by decide +kernel, rfl, by decide +kernel, by decide +kernel⟩
def d_Layout_keep : He.DefD := ⟨("Layout", some "_keep"), "_keep", "Layout._keep", defArgs s_Layout_keep, defBody s_Layout_keep, defScope s_Layout_keep, [], []⟩
abbrev s_Layout_code_around : Stmt := inClass (top 53) 2
abbrev N_Layout_code_around : List Str := ["self", "path"]
theorem c_Layout_code_around : FnScope N_Layout_code_around ["self", "path"] (defScope s_Layout_code_around) := ⟨rfl, rfl, rfl, by decide +kernel, rfl, by decide +kernel, by decide +kernel⟩
def d_Layout_code_around : He.DefD := ⟨("Layout", some "code_around"), "code_around", "Layout.code_around", defArgs s_Layout_code_around, defBody s_Layout_code_around, defScope s_Layout_code_around, [], []⟩
abbrev s_Program_init : Stmt := inClass (top 55) 0
abbrev N_Program_init : List Str := ["self", "block", "_", "fault"]
theorem c_Program_init : FnScope N_Program_init ["self", "block"] (defScope s_Program_init) := ⟨rfl, rfl, rfl, by decide +kernel, rfl, by decide +kernel, by decide +kernel⟩
def d_Program_init : He.DefD := ⟨("Program", some "__init__"), "__init__", "Program.__init__", defArgs s_Program_init, defBody s_Program_init, defScope s_Program_init, [], []⟩
abbrev s_Program_block : Stmt := inClass (top 55) 1
abbrev N_Program_block : List Str := ["self"]
theorem c_Program_block : FnScope N_Program_block ["self"] (defScope s_Program_block) := ⟨rfl, rfl, rfl, by decide +kernel, rfl, by decide +kernel, by decide +kernel⟩
def d_Program_block : He.DefD := ⟨("Program", some "block"), "block", "Program.block", defArgs s_Program_block, defBody s_Program_block, defScope s_Program_block, [], []⟩
abbrev s_Program_getitem : Stmt := inClass (top 55) 2
abbrev N_Program_getitem : List Str := ["self", "at"]
theorem c_Program_getitem : FnScope N_Program_getitem ["self", "at"] (defScope s_Program_getitem) := ⟨rfl, rfl, rfl, by decide +kernel, rfl, by decide +kernel, by decide +kernel⟩
def d_Program_getitem : He.DefD := ⟨("Program", some "__getitem__"), "__getitem__", "Program.__getitem__", defArgs s_Program_getitem, defBody s_Program_getitem, defScope s_Program_getitem, [], []⟩
abbrev s_Program_iter : Stmt := inClass (top 55) 3
abbrev N_Program_iter : List Str := ["self"]
theorem c_Program_iter : FnScope N_Program_iter ["self"] (defScope s_Program_iter) := ⟨rfl, rfl, rfl, by decide +kernel, rfl, by decide +kernel, by decide +kernel⟩
def d_Program_iter : He.DefD := ⟨("Program", some "__iter__"), "__iter__", "Program.__iter__", defArgs s_Program_iter, defBody s_Program_iter, defScope s_Program_iter, [], []⟩
abbrev s_Program_len : Stmt := inClass (top 55) 4
abbrev N_Program_len : List Str := ["self"]
theorem c_Program_len : FnScope N_Program_len ["self"] (defScope s_Program_len) := ⟨rfl, rfl, rfl, by decide +kernel, rfl, by decide +kernel, by decide +kernel⟩
def d_Program_len : He.DefD := ⟨("Program", some "__len__"), "__len__", "Program.__len__", defArgs s_Program_len, defBody s_Program_len, defScope s_Program_len, [], []⟩
abbrev s_Program_paths : Stmt := inClass (top 55) 5
abbrev N_Program_paths : List Str := ["self"]
theorem c_Program_paths : FnScope N_Program_paths ["self"] (defScope s_Program_paths) := ⟨rfl, rfl, rfl, by decide +kernel, rfl, by decide +kernel, by decide +kernel⟩
def d_Program_paths : He.DefD := ⟨("Program", some "paths"), "paths", "Program.paths", defArgs s_Program_paths, defBody s_Program_paths, defScope s_Program_paths, [], []⟩
abbrev s_Program_codes : Stmt := inClass (top 55) 6
abbrev N_Program_codes : List Str := ["self"]
theorem c_Program_codes : FnScope N_Program_codes ["self"] (defScope s_Program_codes) := ⟨rfl, rfl, rfl, by decide +kernel, rfl, by decide +kernel, by decide +kernel⟩
def d_Program_codes : He.DefD := ⟨("Program", some "codes"), "codes", "Program.codes", defArgs s_Program_codes, defBody s_Program_codes, defScope s_Program_codes, [], []⟩
abbrev s_Program_body : Stmt := inClass (top 55) 7
abbrev N_Program_body : List Str := ["self", "code"]
theorem c_Program_body : FnScope N_Program_body ["self", "code"] (defScope s_Program_body) := ⟨rfl, rfl, rfl, by decide +kernel, rfl, by decide +kernel, by decide +kernel⟩
def d_Program_body : He.DefD := ⟨("Program", some "body"), "body", "Program.body", defArgs s_Program_body, defBody s_Program_body, defScope s_Program_body, [], []⟩
abbrev s_Program_eq : Stmt := inClass (top 55) 8
abbrev N_Program_eq : List Str := ["self", "other"]
theorem c_Program_eq : FnScope N_Program_eq ["self", "other"] (defScope s_Program_eq) := ⟨rfl, rfl, rfl, by decide +kernel, rfl, by decide +kernel, by decide +kernel⟩
def d_Program_eq : He.DefD := ⟨("Program", some "__eq__"), "__eq__", "Program.__eq__", defArgs s_Program_eq, defBody s_Program_eq, defScope s_Program_eq, [], []⟩
abbrev s_is_path : Stmt := top 56
abbrev N_is_path : List Str := ["program", "thing"]
theorem c_is_path : FnScope N_is_path ["program", "thing"] (defScope s_is_path) := ⟨rfl, rfl, rfl, by decide +kernel, rfl, by decide +kernel, by decide +kernel⟩
def d_is_path : He.DefD := ⟨("is_path", none), "is_path", "is_path", defArgs s_is_path, defBody s_is_path, defScope s_is_path, [], []⟩
abbrev s_is_code : Stmt := top 57
abbrev N_is_code : List Str := ["program", "thing"]
theorem c_is_code : FnScope N_is_code ["program", "thing"] (defScope s_is_code) := ⟨rfl, rfl, rfl, by decide +kernel, rfl, by decide +kernel, by decide +kernel⟩
def d_is_code : He.DefD := ⟨("is_code", none), "is_code", "is_code", defArgs s_is_code, defBody s_is_code, defScope s_is_code, [], []⟩
abbrev s__law_source : Stmt := top 59
abbrev N__law_source : List Str := ["_law_script", "_law_nodes", "_law_many"]
theorem c__law_source : FnScope N__law_source ["_law_script", "_law_nodes", "_law_many"] (defScope s__law_source) := ⟨rfl, rfl, rfl, by decide +kernel, rfl, by decide +kernel, by decide +kernel⟩
def d__law_source : He.DefD := ⟨("_law_source", none), "_law_source", "_law_source", defArgs s__law_source, defBody s__law_source, defScope s__law_source, [], []⟩
abbrev s__law_draw : Stmt := top 60
abbrev N__law_draw : List Str := ["_law_src", "_law_many", "_law_cell", "_law_digit", "_law_number"]
theorem c__law_draw : FnScope N__law_draw ["_law_src", "_law_many"] (defScope s__law_draw) := ⟨rfl, rfl, rfl, by decide +kernel, rfl, by decide +kernel, by decide +kernel⟩
def d__law_draw : He.DefD := ⟨("_law_draw", none), "_law_draw", "_law_draw", defArgs s__law_draw, defBody s__law_draw, defScope s__law_draw, [], []⟩
abbrev s__law_words : Stmt := top 61
abbrev N__law_words : List Str := ["_law_words_here"]
theorem c__law_words : FnScope N__law_words [] (defScope s__law_words) := ⟨rfl, rfl, rfl, by decide +kernel, rfl, by decide +kernel, by decide +kernel⟩
def d__law_words : He.DefD := ⟨("_law_words", none), "_law_words", "_law_words", defArgs s__law_words, defBody s__law_words, defScope s__law_words, [], []⟩
abbrev s__law_name : Stmt := top 62
abbrev N__law_name : List Str := ["_law_src", "_law_shape", "_law_words_here", "_law_many", "_law_word", "_law_k"]
theorem c__law_name : FnScope N__law_name ["_law_src"] (defScope s__law_name) := ⟨rfl, rfl, rfl, by decide +kernel, rfl, by decide +kernel, by decide +kernel⟩
def d__law_name : He.DefD := ⟨("_law_name", none), "_law_name", "_law_name", defArgs s__law_name, defBody s__law_name, defScope s__law_name, [], []⟩
abbrev s__law_phrase : Stmt := top 63
abbrev N__law_phrase : List Str := ["_law_src", "_law_signs", "_law_shape", "_law_many", "_law_k"]
theorem c__law_phrase : FnScope N__law_phrase ["_law_src"] (defScope s__law_phrase) := ⟨rfl, rfl, rfl, by decide +kernel, rfl, by decide +kernel, by decide +kernel⟩
def d__law_phrase : He.DefD := ⟨("_law_phrase", none), "_law_phrase", "_law_phrase", defArgs s__law_phrase, defBody s__law_phrase, defScope s__law_phrase, [], []⟩
abbrev s__law_leaf : Stmt := top 64
abbrev N__law_leaf : List Str := ["_law_src", "_law_method", "_law_shape"]
theorem c__law_leaf : FnScope N__law_leaf ["_law_src", "_law_method"] (defScope s__law_leaf) := ⟨rfl, rfl, rfl, by decide +kernel, rfl, by decide +kernel, by decide +kernel⟩
def d__law_leaf : He.DefD := ⟨("_law_leaf", none), "_law_leaf", "_law_leaf", defArgs s__law_leaf, defBody s__law_leaf, defScope s__law_leaf, [], []⟩
abbrev s__law_expression : Stmt := top 65
abbrev N__law_expression : List Str := ["_law_src", "_law_room", "_law_method", "_law_shape", "_law_many", "_law_k", "_law_first", "_law_rows_here", "_law_key", "_law_second"]
theorem c__law_expression : FnScope N__law_expression ["_law_src", "_law_room", "_law_method"] (defScope s__law_expression) := ⟨rfl, rfl, rfl, by decide +kernel, rfl, by decide +kernel, by decide +kernel⟩
def d__law_expression : He.DefD := ⟨("_law_expression", none), "_law_expression", "_law_expression", defArgs s__law_expression, defBody s__law_expression, defScope s__law_expression, [], []⟩
abbrev s__law_params : Stmt := top 66
abbrev N__law_params : List Str := ["_law_src", "_law_least", "_law_params_here", "_law_k", "_law_name_here"]
theorem c__law_params : FnScope N__law_params ["_law_src", "_law_least"] (defScope s__law_params) := ⟨rfl, rfl, rfl, by decide +kernel, rfl, by decide +kernel, by decide +kernel⟩
def d__law_params : He.DefD := ⟨("_law_params", none), "_law_params", "_law_params", defArgs s__law_params, defBody s__law_params, defScope s__law_params, [], []⟩
abbrev s__law_call : Stmt := top 67
abbrev N__law_call : List Str := ["_law_src", "_law_kind", "_law_how", "_law_name_here", "_law_callee", "_law_many", "_law_k"]
theorem c__law_call : FnScope N__law_call ["_law_src", "_law_kind"] (defScope s__law_call) := ⟨rfl, rfl, rfl, by decide +kernel, rfl, by decide +kernel, by decide +kernel⟩
def d__law_call : He.DefD := ⟨("_law_call", none), "_law_call", "_law_call", defArgs s__law_call, defBody s__law_call, defScope s__law_call, [], []⟩
abbrev s__law_simple : Stmt := top 68
abbrev N__law_simple : List Str := ["_law_src", "_law_kind", "_law_within", "_law_shape", "_law_e", "_law_second"]
theorem c__law_simple : FnScope N__law_simple ["_law_src", "_law_kind", "_law_within"] (defScope s__law_simple) := ⟨rfl, rfl, rfl, by decide +kernel, rfl, by decide +kernel, by decide +kernel⟩
def d__law_simple : He.DefD := ⟨("_law_simple", none), "_law_simple", "_law_simple", defArgs s__law_simple, defBody s__law_simple, defScope s__law_simple, [], []⟩
abbrev s__law_class : Stmt := top 69
abbrev N__law_class : List Str := ["_law_src", "_law_depth", "_law_kind", "_law_name_here", "_law_above", "_law_methods", "_law_names", "_law_k", "_law_method", "_law_params_here"]
theorem c__law_class : FnScope N__law_class ["_law_src", "_law_depth", "_law_kind"] (defScope s__law_class) := ⟨rfl, rfl, rfl, by decide +kernel, rfl, by decide +kernel, by decide +kernel⟩
def d__law_class : He.DefD := ⟨("_law_class", none), "_law_class", "_law_class", defArgs s__law_class, defBody s__law_class, defScope s__law_class, [], []⟩
abbrev s__law_try : Stmt := top 70
abbrev N__law_try : List Str := ["_law_src", "_law_depth", "_law_kind", "_law_within", "_law_first", "_law_name_here", "_law_second"]
theorem c__law_try : FnScope N__law_try ["_law_src", "_law_depth", "_law_kind", "_law_within"] (defScope s__law_try) := ⟨rfl, rfl, rfl, by decide +kernel, rfl, by decide +kernel, by decide +kernel⟩
def d__law_try : He.DefD := ⟨("_law_try", none), "_law_try", "_law_try", defArgs s__law_try, defBody s__law_try, defScope s__law_try, [], []⟩
abbrev s__law_statement : Stmt := top 71
abbrev N__law_statement : List Str := ["_law_src", "_law_depth", "_law_kind", "_law_within", "_law_shape", "_law_name_here", "_law_params_here", "_law_e", "_law_first"]
theorem c__law_statement : FnScope N__law_statement ["_law_src", "_law_depth", "_law_kind", "_law_within"] (defScope s__law_statement) := ⟨rfl, rfl, rfl, by decide +kernel, rfl, by decide +kernel, by decide +kernel⟩
def d__law_statement : He.DefD := ⟨("_law_statement", none), "_law_statement", "_law_statement", defArgs s__law_statement, defBody s__law_statement, defScope s__law_statement, [], []⟩
abbrev s__law_block : Stmt := top 72
abbrev N__law_block : List Str := ["_law_src", "_law_depth", "_law_kind", "_law_within", "_law_block_here", "_law_many", "_law_k"]
theorem c__law_block : FnScope N__law_block ["_law_src", "_law_depth", "_law_kind", "_law_within"] (defScope s__law_block) := ⟨rfl, rfl, rfl, by decide +kernel, rfl, by decide +kernel, by decide +kernel⟩
def d__law_block : He.DefD := ⟨("_law_block", none), "_law_block", "_law_block", defArgs s__law_block, defBody s__law_block, defScope s__law_block, [], []⟩
abbrev s__law_top : Stmt := top 73
abbrev N__law_top : List Str := ["_law_script", "_law_nodes", "_law_many", "_law_src", "_law_block_here", "_law_k"]
theorem c__law_top : FnScope N__law_top ["_law_script", "_law_nodes", "_law_many"] (defScope s__law_top) := ⟨rfl, rfl, rfl, by decide +kernel, rfl, by decide +kernel, by decide +kernel⟩
def d__law_top : He.DefD := ⟨("_law_top", none), "_law_top", "_law_top", defArgs s__law_top, defBody s__law_top, defScope s__law_top, [], []⟩
abbrev s__law_inner : Stmt := top 74
abbrev N__law_inner : List Str := ["_law_statement_here", "_law_method"]
theorem c__law_inner : FnScope N__law_inner ["_law_statement_here"] (defScope s__law_inner) := ⟨rfl, rfl, rfl, by decide +kernel, rfl, by decide +kernel, by decide +kernel⟩
def d__law_inner : He.DefD := ⟨("_law_inner", none), "_law_inner", "_law_inner", defArgs s__law_inner, defBody s__law_inner, defScope s__law_inner, [], []⟩
abbrev s__law_rows : Stmt := top 75
abbrev N__law_rows : List Str := ["_law_block_here", "_law_place", "_law_rows_here", "_law_k", "_law_inner_here", "_law_number"]
theorem c__law_rows : FnScope N__law_rows ["_law_block_here", "_law_place"] (defScope s__law_rows) := ⟨rfl, rfl, rfl, by decide +kernel, rfl, by decide +kernel, by decide +kernel⟩
def d__law_rows : He.DefD := ⟨("_law_rows", none), "_law_rows", "_law_rows", defArgs s__law_rows, defBody s__law_rows, defScope s__law_rows, [], []⟩
abbrev s__law_same : Stmt := top 76
abbrev N__law_same : List Str := ["_law_actual", "_law_due", "_law_k"]
theorem c__law_same : FnScope N__law_same ["_law_actual", "_law_due"] (defScope s__law_same) := ⟨rfl, rfl, rfl, by decide +kernel, rfl, by decide +kernel, by decide +kernel⟩
def d__law_same : He.DefD := ⟨("_law_same", none), "_law_same", "_law_same", defArgs s__law_same, defBody s__law_same, defScope s__law_same, [], []⟩
abbrev s__law_are_paths : Stmt := top 77
abbrev N__law_are_paths : List Str := ["_law_paths", "_law_path", "_law_part", "_law_k"]
theorem c__law_are_paths : FnScope N__law_are_paths ["_law_paths"] (defScope s__law_are_paths) := ⟨rfl, rfl, rfl, by decide +kernel, rfl, by decide +kernel, by decide +kernel⟩
def d__law_are_paths : He.DefD := ⟨("_law_are_paths", none), "_law_are_paths", "_law_are_paths", defArgs s__law_are_paths, defBody s__law_are_paths, defScope s__law_are_paths, [], []⟩
abbrev s__law_of_block : Stmt := top 78
abbrev N__law_of_block : List Str := ["_law_place", "_law_many", "_law_k"]
theorem c__law_of_block : FnScope N__law_of_block ["_law_place", "_law_many"] (defScope s__law_of_block) := ⟨rfl, rfl, rfl, by decide +kernel, rfl, by decide +kernel, by decide +kernel⟩
def d__law_of_block : He.DefD := ⟨("_law_of_block", none), "_law_of_block", "_law_of_block", defArgs s__law_of_block, defBody s__law_of_block, defScope s__law_of_block, [], []⟩
abbrev s_law : Stmt := top 79
abbrev N_law : List Str := ["_law_script", "_law_built", "_law_block_here", "_law_program", "_law_paths", "_law_due", "_law_codes", "_law_whole", "_law_path", "_law_statement_here", "_law_inner_here", "_law_number", "_law_place", "_law_k"]
theorem c_law : FnScope N_law ["_law_script"] (defScope s_law) := ⟨rfl, rfl, rfl, by decide +kernel, rfl, by decide +kernel, by decide +kernel⟩
def d_law : He.DefD := ⟨("law", none), "law", "law", defArgs s_law, defBody s_law, defScope s_law, [], []⟩
def fn : List He.DefD := [d__wall, d_NoProgram_init, d_is_integer, d_is_integers, d_is_name, d_is_phrase, d_is_written_number, d_is_sign, d_is_how, d_is_perhaps_name, d_is_block, d_is_parameters, d_is_method, d_is_methods, d_is_expressions, d_is_row, d_is_rows, d_is_part, d_first_word, d_has_parts, d_is_expression, d_is_statement, d_expressions_of, d_blocks_of, d_has_above, d_fresh, d_Place_init, d_top_place, d_inner_place, d_fits, d__rows, d_survey, d_Layout_init, d_Layout_keep, d_Layout_code_around, d_Program_init, d_Program_block, d_Program_getitem, d_Program_iter, d_Program_len, d_Program_paths, d_Program_codes, d_Program_body, d_Program_eq, d_is_path, d_is_code, d__law_source, d__law_draw, d__law_words, d__law_name, d__law_phrase, d__law_leaf, d__law_expression, d__law_params, d__law_call, d__law_simple, d__law_class, d__law_try, d__law_statement, d__law_block, d__law_top, d__law_inner, d__law_rows, d__law_same, d__law_are_paths, d__law_of_block, d_law]
end K0
/-! ## K0F -/
set_option Elab.async false
set_option linter.all false
set_option maxRecDepth 100000
set_option maxHeartbeats 0
namespace K0
open PySem PySem.Spec PyProof.Rows L2 KB
def v_WORDS : List Str := ["let", "set", "put", "add", "cut", "say", "ask", "if", "else", "while", "leave", "give", "raise", "try", "catch", "last", "def", "class", "over", "call", "none", "yes", "no", "and", "or", "not", "len", "kind", "above", "at"]
def v_SIGNS : List Str := ["+", "-", "*", "<", "==", "and", "or"]
def v_HOWS : List Str := ["let", "set", "drop", "give", "say"]
def t_EXPRESSIONS : List (Str × List Str) := [("none", []), ("yes", []), ("no", []), ("number", ["number"]), ("text", ["phrase"]), ("name", ["name"]), ("op", ["sign", "expression", "expression"]), ("not", ["expression"]), ("len", ["expression"]), ("kind", ["expression"]), ("list", ["items"]), ("table", ["rows"]), ("get", ["expression", "name"]), ("at", ["expression", "expression"]), ("above", ["name"])]
def k_EXPRESSIONS (K : PySem.W.Frag) : List (Str × V) := t_EXPRESSIONS.map fun p => (p.1, .ref (atK "EXPRESSIONS" p.1 K))
def t_STATEMENTS : List (Str × List Str) := [("let", ["name", "expression"]), ("set", ["name", "expression"]), ("put", ["expression", "name", "expression"]), ("place", ["expression", "expression", "expression"]), ("add", ["expression", "expression"]), ("cut", ["expression"]), ("say", ["expression"]), ("ask", ["name", "phrase"]), ("call", ["how", "perhaps a name", "expression", "arguments"]), ("if", ["expression", "block", "block"]), ("while", ["expression", "block"]), ("leave", []), ("give", ["expression"]), ("raise", ["expression"]), ("try", ["block", "perhaps a name", "block", "block"]), ("def", ["name", "parameters", "block"]), ("class", ["name", "perhaps an expression", "methods"])]
def k_STATEMENTS (K : PySem.W.Frag) : List (Str × V) := t_STATEMENTS.map fun p => (p.1, .ref (atK "STATEMENTS" p.1 K))
def t_PLAIN_PARTS : List (Str × Str) := [("name", "is_name"), ("phrase", "is_phrase"), ("number", "is_written_number"), ("sign", "is_sign"), ("how", "is_how"), ("perhaps a name", "is_perhaps_name"), ("block", "is_block"), ("parameters", "is_parameters"), ("methods", "is_methods")]
def k_PLAIN_PARTS (K : PySem.W.Frag) : List (Str × V) := t_PLAIN_PARTS.map fun p => (p.1, .ref (He.ga K p.2))
def fa0 : List He.Fa := [.free "TypeError", .free "ValueError", .free "all", .free "any", .free "bool", .free "enumerate", .free "int", .free "isinstance", .free "len", .free "list", .free "range", .free "set", .free "str", .free "tuple", .free "zip", .str "LETTERS" "abcdefghijklmnopqrstuvwxyz", .str "PHRASE_SIGNS" "abcdefghijklmnopqrstuvwxyz0123456789 ", .int "DEEPEST_EXPRESSION" 5, .int "MOST_ITEMS" 4, .int "MOST_ARGUMENTS" 3, .int "MOST_METHODS" 4, .int "MOST_IN_BLOCK" 12, .int "MOST_STATEMENTS" 80, .int "DEEPEST_BLOCK" 8, .glo "WORDS", .glo "SIGNS", .glo "HOWS", .glo "EXPRESSIONS", .glo "STATEMENTS", .glo "PLAIN_PARTS"]
def fa1 : List He.Fa := [.glo "_wall", .glo "is_integer", .glo "is_integers", .glo "is_name", .glo "is_phrase", .glo "is_written_number", .glo "is_sign", .glo "is_how", .glo "is_perhaps_name", .glo "is_block", .glo "is_parameters", .glo "is_method", .glo "is_methods", .glo "is_expressions", .glo "is_row", .glo "is_rows", .glo "is_part", .glo "first_word", .glo "has_parts", .glo "is_expression", .glo "is_statement", .glo "expressions_of", .glo "blocks_of", .glo "has_above", .glo "fresh", .glo "top_place", .glo "inner_place", .glo "fits", .glo "_rows", .glo "survey"]
def fa2 : List He.Fa := [.glo "is_path", .glo "is_code", .glo "_law_source", .glo "_law_draw", .glo "_law_words", .glo "_law_name", .glo "_law_phrase", .glo "_law_leaf", .glo "_law_expression", .glo "_law_params", .glo "_law_call", .glo "_law_simple", .glo "_law_class", .glo "_law_try", .glo "_law_statement", .glo "_law_block", .glo "_law_top", .glo "_law_inner", .glo "_law_rows", .glo "_law_same", .glo "_law_are_paths", .glo "_law_of_block", .glo "law", .glo "AnswerError", .glo "NoPath", .glo "NoCode", .glo "NoProgram", .glo "Place", .glo "Layout", .glo "Program"]
def fa3 : List He.Fa := [.cls "Place", .mkr "Place", .noat "Place" "depth", .noat "Place" "routine", .noat "Place" "looping", .cls "Layout", .mkr "Layout", .noat "Layout" "order", .noat "Layout" "statements", .noat "Layout" "routines", .noat "Layout" "bodies", .noat "Layout" "parameters", .meth "Layout" "_keep", .meth "Layout" "code_around", .cls "Program", .mkr "Program", .noat "Program" "_top", .noat "Program" "layout", .meth "Program" "block", .meth "Program" "__getitem__", .meth "Program" "__len__", .meth "Program" "paths", .meth "Program" "codes", .meth "Program" "body", .meth "Program" "__eq__", .exm "AnswerError" "AnswerError" true, .exm "NoPath" "NoPath" true, .exm "NoCode" "NoCode" true, .exm "NoProgram" "NoProgram" true]
def fa : List He.Fa := fa0 ++ (fa1 ++ (fa2 ++ (fa3)))
def exl (K : PySem.W.Frag) : List Bool := [tupA K (He.ga K "WORDS") v_WORDS,
  tupA K (He.ga K "SIGNS") v_SIGNS,
  tupA K (He.ga K "HOWS") v_HOWS,
  tabB K (He.ga K "EXPRESSIONS") (k_EXPRESSIONS K),
  t_EXPRESSIONS.all fun p => tupA K (atK "EXPRESSIONS" p.1 K) p.2,
  tabB K (He.ga K "STATEMENTS") (k_STATEMENTS K),
  t_STATEMENTS.all fun p => tupA K (atK "STATEMENTS" p.1 K) p.2,
  tabB K (He.ga K "PLAIN_PARTS") (k_PLAIN_PARTS K),
  exB K (He.ga K "AnswerError"),
  xfB K (He.ga K "AnswerError"),
  isEB K (He.ga K "AnswerError"),
  exB K (He.ga K "NoPath"),
  xfB K (He.ga K "NoPath"),
  isEB K (He.ga K "NoPath"),
  exB K (He.ga K "NoCode"),
  xfB K (He.ga K "NoCode"),
  isEB K (He.ga K "NoCode"),
  oexB K (He.ga K "NoProgram"),
  decide (PySem.W.findIn K (.ref (He.ga K "NoProgram")) "path" = some none),
  decide (PySem.W.findIn K (.ref (He.ga K "NoProgram")) "__init__" = some (some (.ref (He.ma K (He.ga K "NoProgram") "__init__")))),
  decide (PySem.W.typeIn K (.ref (He.ma K (He.ga K "NoProgram") "__init__")) = some (.type "function")),
  decide (PySem.W.kitOne K (.ref (He.ga K "NoProgram")) (.ref (He.ga K "AnswerError")) = some true),
  decide (PySem.W.kitOne K (.ref (He.ga K "NoProgram")) (.ref (He.ga K "NoPath")) = some false),
  decide (PySem.W.kitOne K (.ref (He.ga K "NoProgram")) (.ref (He.ga K "NoCode")) = some false),
  decide (PySem.W.kitOne K (.ref (He.ga K "NoProgram")) (.ref (He.ga K "NoProgram")) = some true),
  decide (PySem.W.kitOne K (.ref (He.ga K "NoProgram")) (.type "ValueError") = some true),
  exB K (He.ga K "NoProgram"),
  xfB K (He.ga K "NoProgram"),
  isEB K (He.ga K "NoProgram"),
  PySem.W.fnIn K (He.ma K (He.ga K "Program") "__getitem__")]
def ex (K : PySem.W.Frag) : Bool := (exl K).all id
def ts : List He.Tab := [(fun K => He.ga K "EXPRESSIONS", t_EXPRESSIONS.map (·.1)), (fun K => He.ga K "STATEMENTS", t_STATEMENTS.map (·.1)), (fun K => He.ga K "PLAIN_PARTS", t_PLAIN_PARTS.map (·.1))]
end K0
/-! ## K0R -/
set_option Elab.async false
set_option linter.all false
set_option maxRecDepth 100000
set_option maxHeartbeats 0
namespace K0
open PySem PySem.Spec PyProof.Rows L2 KB
abbrev R : PySem.W.OpenRow := PySem.W.OpenLaw.row PySem.Challenge.rw_everyanswer_k04_paths_are_the_ascending
abbrev hk : PySem.W.Hook := He.hookX 4 fa fn ts [] ex
def ob (s : PySem.W.SharedT) : He.AlX := He.obsX 4 fa fn ts [] ex (HandSHeadRun.getT s)
theorem ob_eq (s : PySem.W.SharedT) : ob s = hk.obs s.abs := He.obsX_eq (HandSHeadRun.getT_eq s)
def lo0 : List Str := ["_wall", "__name__", "AnswerError", "NoPath", "NoCode", "NoProgram", "LETTERS", "PHRASE_SIGNS", "WORDS", "SIGNS", "HOWS", "DEEPEST_EXPRESSION", "MOST_ITEMS", "MOST_ARGUMENTS", "MOST_METHODS", "EXPRESSIONS", "STATEMENTS", "is_integer", "is_integers", "is_name", "is_phrase", "is_written_number", "is_sign", "is_how", "is_perhaps_name", "is_block", "is_parameters", "is_method", "is_methods", "is_expressions"]
def lo1 : List Str := ["is_row", "is_rows", "is_part", "PLAIN_PARTS", "first_word", "has_parts", "is_expression", "is_statement", "expressions_of", "blocks_of", "has_above", "fresh", "MOST_IN_BLOCK", "MOST_STATEMENTS", "DEEPEST_BLOCK", "Place", "top_place", "inner_place", "fits", "_rows", "survey", "Layout", "Program", "is_path", "is_code", "_law_source", "_law_draw", "_law_words", "_law_name", "_law_phrase"]
def lo2 : List Str := ["_law_leaf", "_law_expression", "_law_params", "_law_call", "_law_simple", "_law_class", "_law_try", "_law_statement", "_law_block", "_law_top", "_law_inner", "_law_rows", "_law_same", "_law_are_paths", "_law_of_block"]
def lo : List Str := lo0 ++ lo1 ++ lo2

theorem run0 (w : World) : HandSHeadRun.RunEq R (PySem.W.view R.prog [79]) hk ob 5000 lo (w.withFollow "special-get-raises" false) := by
  intro os
  kernel_rfl
theorem run1 (w : World) : HandSHeadRun.RunEq R (PySem.W.view R.prog [79]) hk ob 5000 lo (w.withFollow "special-get-raises" true) := by
  intro os
  kernel_rfl
theorem run (w : World) : HandSHeadRun.RunEq R (PySem.W.view R.prog [79]) hk ob 5000 lo w := PySem.W.byRow2 "special-get-raises" (P := fun w => HandSHeadRun.RunEq R (PySem.W.view R.prog [79]) hk ob 5000 lo w) run0 run1 w
end K0
/-! ## K0Z -/
set_option Elab.async false
set_option linter.all false
set_option maxRecDepth 100000
set_option maxHeartbeats 4000000
namespace K0
open PySem PySem.Spec PyProof.Rows L2 KB
structure Cz (w : World) (K : PySem.W.Frag) (mg : Str → Option Value) : Prop where
  ex : ∃ h : Heap, K.In h ∧ h.Ns mainGlobals mg ∧ He.SaysX fa fn ts [] K0.ex w h K
section
variable {w : World} {K : PySem.W.Frag} {mg : Str → Option Value}
theorem Cz.bit (z : Cz w K mg) (i : Nat) {b : Bool} (h : (exl K)[i]? = some b) : b = true := by
  obtain ⟨_, _, _, c⟩ := z.ex
  exact List.all_eq_true.mp c.more b (List.mem_of_getElem? h)
theorem Cz.free_TypeError (z : Cz w K mg) : mg "TypeError" = none := by
  obtain ⟨h, X, G, c⟩ := z.ex
  exact He.free_ok X G (c.t.d.fact 0 rfl)
theorem Cz.free_ValueError (z : Cz w K mg) : mg "ValueError" = none := by
  obtain ⟨h, X, G, c⟩ := z.ex
  exact He.free_ok X G (c.t.d.fact 1 rfl)
theorem Cz.free_all (z : Cz w K mg) : mg "all" = none := by
  obtain ⟨h, X, G, c⟩ := z.ex
  exact He.free_ok X G (c.t.d.fact 2 rfl)
theorem Cz.free_any (z : Cz w K mg) : mg "any" = none := by
  obtain ⟨h, X, G, c⟩ := z.ex
  exact He.free_ok X G (c.t.d.fact 3 rfl)
theorem Cz.free_bool (z : Cz w K mg) : mg "bool" = none := by
  obtain ⟨h, X, G, c⟩ := z.ex
  exact He.free_ok X G (c.t.d.fact 4 rfl)
theorem Cz.free_enumerate (z : Cz w K mg) : mg "enumerate" = none := by
  obtain ⟨h, X, G, c⟩ := z.ex
  exact He.free_ok X G (c.t.d.fact 5 rfl)
theorem Cz.free_int (z : Cz w K mg) : mg "int" = none := by
  obtain ⟨h, X, G, c⟩ := z.ex
  exact He.free_ok X G (c.t.d.fact 6 rfl)
theorem Cz.free_isinstance (z : Cz w K mg) : mg "isinstance" = none := by
  obtain ⟨h, X, G, c⟩ := z.ex
  exact He.free_ok X G (c.t.d.fact 7 rfl)
theorem Cz.free_len (z : Cz w K mg) : mg "len" = none := by
  obtain ⟨h, X, G, c⟩ := z.ex
  exact He.free_ok X G (c.t.d.fact 8 rfl)
theorem Cz.free_list (z : Cz w K mg) : mg "list" = none := by
  obtain ⟨h, X, G, c⟩ := z.ex
  exact He.free_ok X G (c.t.d.fact 9 rfl)
theorem Cz.free_range (z : Cz w K mg) : mg "range" = none := by
  obtain ⟨h, X, G, c⟩ := z.ex
  exact He.free_ok X G (c.t.d.fact 10 rfl)
theorem Cz.free_set (z : Cz w K mg) : mg "set" = none := by
  obtain ⟨h, X, G, c⟩ := z.ex
  exact He.free_ok X G (c.t.d.fact 11 rfl)
theorem Cz.free_str (z : Cz w K mg) : mg "str" = none := by
  obtain ⟨h, X, G, c⟩ := z.ex
  exact He.free_ok X G (c.t.d.fact 12 rfl)
theorem Cz.free_tuple (z : Cz w K mg) : mg "tuple" = none := by
  obtain ⟨h, X, G, c⟩ := z.ex
  exact He.free_ok X G (c.t.d.fact 13 rfl)
theorem Cz.free_zip (z : Cz w K mg) : mg "zip" = none := by
  obtain ⟨h, X, G, c⟩ := z.ex
  exact He.free_ok X G (c.t.d.fact 14 rfl)
theorem Cz.str_LETTERS (z : Cz w K mg) : ∃ t, mg "LETTERS" = some (.str "abcdefghijklmnopqrstuvwxyz" t) := by
  obtain ⟨h, X, G, c⟩ := z.ex
  exact He.str_ok X G (c.t.d.fact 15 rfl)
theorem Cz.str_PHRASE_SIGNS (z : Cz w K mg) : ∃ t, mg "PHRASE_SIGNS" = some (.str "abcdefghijklmnopqrstuvwxyz0123456789 " t) := by
  obtain ⟨h, X, G, c⟩ := z.ex
  exact He.str_ok X G (c.t.d.fact 16 rfl)
theorem Cz.int_DEEPEST_EXPRESSION (z : Cz w K mg) : ∃ t, mg "DEEPEST_EXPRESSION" = some (.int 5 t) := by
  obtain ⟨h, X, G, c⟩ := z.ex
  exact He.int_ok X G (c.t.d.fact 17 rfl)
theorem Cz.int_MOST_ITEMS (z : Cz w K mg) : ∃ t, mg "MOST_ITEMS" = some (.int 4 t) := by
  obtain ⟨h, X, G, c⟩ := z.ex
  exact He.int_ok X G (c.t.d.fact 18 rfl)
theorem Cz.int_MOST_ARGUMENTS (z : Cz w K mg) : ∃ t, mg "MOST_ARGUMENTS" = some (.int 3 t) := by
  obtain ⟨h, X, G, c⟩ := z.ex
  exact He.int_ok X G (c.t.d.fact 19 rfl)
theorem Cz.int_MOST_METHODS (z : Cz w K mg) : ∃ t, mg "MOST_METHODS" = some (.int 4 t) := by
  obtain ⟨h, X, G, c⟩ := z.ex
  exact He.int_ok X G (c.t.d.fact 20 rfl)
theorem Cz.int_MOST_IN_BLOCK (z : Cz w K mg) : ∃ t, mg "MOST_IN_BLOCK" = some (.int 12 t) := by
  obtain ⟨h, X, G, c⟩ := z.ex
  exact He.int_ok X G (c.t.d.fact 21 rfl)
theorem Cz.int_MOST_STATEMENTS (z : Cz w K mg) : ∃ t, mg "MOST_STATEMENTS" = some (.int 80 t) := by
  obtain ⟨h, X, G, c⟩ := z.ex
  exact He.int_ok X G (c.t.d.fact 22 rfl)
theorem Cz.int_DEEPEST_BLOCK (z : Cz w K mg) : ∃ t, mg "DEEPEST_BLOCK" = some (.int 8 t) := by
  obtain ⟨h, X, G, c⟩ := z.ex
  exact He.int_ok X G (c.t.d.fact 23 rfl)
theorem Cz.glo_WORDS (z : Cz w K mg) : mg "WORDS" = some (.ref (He.ga K "WORDS")) := by
  obtain ⟨h, X, G, c⟩ := z.ex
  exact He.glo_ok X G (c.t.d.fact 24 rfl)
theorem Cz.glo_SIGNS (z : Cz w K mg) : mg "SIGNS" = some (.ref (He.ga K "SIGNS")) := by
  obtain ⟨h, X, G, c⟩ := z.ex
  exact He.glo_ok X G (c.t.d.fact 25 rfl)
theorem Cz.glo_HOWS (z : Cz w K mg) : mg "HOWS" = some (.ref (He.ga K "HOWS")) := by
  obtain ⟨h, X, G, c⟩ := z.ex
  exact He.glo_ok X G (c.t.d.fact 26 rfl)
theorem Cz.glo_EXPRESSIONS (z : Cz w K mg) : mg "EXPRESSIONS" = some (.ref (He.ga K "EXPRESSIONS")) := by
  obtain ⟨h, X, G, c⟩ := z.ex
  exact He.glo_ok X G (c.t.d.fact 27 rfl)
theorem Cz.glo_STATEMENTS (z : Cz w K mg) : mg "STATEMENTS" = some (.ref (He.ga K "STATEMENTS")) := by
  obtain ⟨h, X, G, c⟩ := z.ex
  exact He.glo_ok X G (c.t.d.fact 28 rfl)
theorem Cz.glo_PLAIN_PARTS (z : Cz w K mg) : mg "PLAIN_PARTS" = some (.ref (He.ga K "PLAIN_PARTS")) := by
  obtain ⟨h, X, G, c⟩ := z.ex
  exact He.glo_ok X G (c.t.d.fact 29 rfl)
theorem Cz.glo__wall (z : Cz w K mg) : mg "_wall" = some (.ref (He.ga K "_wall")) := by
  obtain ⟨h, X, G, c⟩ := z.ex
  exact He.glo_ok X G (c.t.d.fact 30 rfl)
theorem Cz.glo_is_integer (z : Cz w K mg) : mg "is_integer" = some (.ref (He.ga K "is_integer")) := by
  obtain ⟨h, X, G, c⟩ := z.ex
  exact He.glo_ok X G (c.t.d.fact 31 rfl)
theorem Cz.glo_is_integers (z : Cz w K mg) : mg "is_integers" = some (.ref (He.ga K "is_integers")) := by
  obtain ⟨h, X, G, c⟩ := z.ex
  exact He.glo_ok X G (c.t.d.fact 32 rfl)
theorem Cz.glo_is_name (z : Cz w K mg) : mg "is_name" = some (.ref (He.ga K "is_name")) := by
  obtain ⟨h, X, G, c⟩ := z.ex
  exact He.glo_ok X G (c.t.d.fact 33 rfl)
theorem Cz.glo_is_phrase (z : Cz w K mg) : mg "is_phrase" = some (.ref (He.ga K "is_phrase")) := by
  obtain ⟨h, X, G, c⟩ := z.ex
  exact He.glo_ok X G (c.t.d.fact 34 rfl)
theorem Cz.glo_is_written_number (z : Cz w K mg) : mg "is_written_number" = some (.ref (He.ga K "is_written_number")) := by
  obtain ⟨h, X, G, c⟩ := z.ex
  exact He.glo_ok X G (c.t.d.fact 35 rfl)
theorem Cz.glo_is_sign (z : Cz w K mg) : mg "is_sign" = some (.ref (He.ga K "is_sign")) := by
  obtain ⟨h, X, G, c⟩ := z.ex
  exact He.glo_ok X G (c.t.d.fact 36 rfl)
theorem Cz.glo_is_how (z : Cz w K mg) : mg "is_how" = some (.ref (He.ga K "is_how")) := by
  obtain ⟨h, X, G, c⟩ := z.ex
  exact He.glo_ok X G (c.t.d.fact 37 rfl)
theorem Cz.glo_is_perhaps_name (z : Cz w K mg) : mg "is_perhaps_name" = some (.ref (He.ga K "is_perhaps_name")) := by
  obtain ⟨h, X, G, c⟩ := z.ex
  exact He.glo_ok X G (c.t.d.fact 38 rfl)
theorem Cz.glo_is_block (z : Cz w K mg) : mg "is_block" = some (.ref (He.ga K "is_block")) := by
  obtain ⟨h, X, G, c⟩ := z.ex
  exact He.glo_ok X G (c.t.d.fact 39 rfl)
theorem Cz.glo_is_parameters (z : Cz w K mg) : mg "is_parameters" = some (.ref (He.ga K "is_parameters")) := by
  obtain ⟨h, X, G, c⟩ := z.ex
  exact He.glo_ok X G (c.t.d.fact 40 rfl)
theorem Cz.glo_is_method (z : Cz w K mg) : mg "is_method" = some (.ref (He.ga K "is_method")) := by
  obtain ⟨h, X, G, c⟩ := z.ex
  exact He.glo_ok X G (c.t.d.fact 41 rfl)
theorem Cz.glo_is_methods (z : Cz w K mg) : mg "is_methods" = some (.ref (He.ga K "is_methods")) := by
  obtain ⟨h, X, G, c⟩ := z.ex
  exact He.glo_ok X G (c.t.d.fact 42 rfl)
theorem Cz.glo_is_expressions (z : Cz w K mg) : mg "is_expressions" = some (.ref (He.ga K "is_expressions")) := by
  obtain ⟨h, X, G, c⟩ := z.ex
  exact He.glo_ok X G (c.t.d.fact 43 rfl)
theorem Cz.glo_is_row (z : Cz w K mg) : mg "is_row" = some (.ref (He.ga K "is_row")) := by
  obtain ⟨h, X, G, c⟩ := z.ex
  exact He.glo_ok X G (c.t.d.fact 44 rfl)
theorem Cz.glo_is_rows (z : Cz w K mg) : mg "is_rows" = some (.ref (He.ga K "is_rows")) := by
  obtain ⟨h, X, G, c⟩ := z.ex
  exact He.glo_ok X G (c.t.d.fact 45 rfl)
theorem Cz.glo_is_part (z : Cz w K mg) : mg "is_part" = some (.ref (He.ga K "is_part")) := by
  obtain ⟨h, X, G, c⟩ := z.ex
  exact He.glo_ok X G (c.t.d.fact 46 rfl)
theorem Cz.glo_first_word (z : Cz w K mg) : mg "first_word" = some (.ref (He.ga K "first_word")) := by
  obtain ⟨h, X, G, c⟩ := z.ex
  exact He.glo_ok X G (c.t.d.fact 47 rfl)
theorem Cz.glo_has_parts (z : Cz w K mg) : mg "has_parts" = some (.ref (He.ga K "has_parts")) := by
  obtain ⟨h, X, G, c⟩ := z.ex
  exact He.glo_ok X G (c.t.d.fact 48 rfl)
theorem Cz.glo_is_expression (z : Cz w K mg) : mg "is_expression" = some (.ref (He.ga K "is_expression")) := by
  obtain ⟨h, X, G, c⟩ := z.ex
  exact He.glo_ok X G (c.t.d.fact 49 rfl)
theorem Cz.glo_is_statement (z : Cz w K mg) : mg "is_statement" = some (.ref (He.ga K "is_statement")) := by
  obtain ⟨h, X, G, c⟩ := z.ex
  exact He.glo_ok X G (c.t.d.fact 50 rfl)
theorem Cz.glo_expressions_of (z : Cz w K mg) : mg "expressions_of" = some (.ref (He.ga K "expressions_of")) := by
  obtain ⟨h, X, G, c⟩ := z.ex
  exact He.glo_ok X G (c.t.d.fact 51 rfl)
theorem Cz.glo_blocks_of (z : Cz w K mg) : mg "blocks_of" = some (.ref (He.ga K "blocks_of")) := by
  obtain ⟨h, X, G, c⟩ := z.ex
  exact He.glo_ok X G (c.t.d.fact 52 rfl)
theorem Cz.glo_has_above (z : Cz w K mg) : mg "has_above" = some (.ref (He.ga K "has_above")) := by
  obtain ⟨h, X, G, c⟩ := z.ex
  exact He.glo_ok X G (c.t.d.fact 53 rfl)
theorem Cz.glo_fresh (z : Cz w K mg) : mg "fresh" = some (.ref (He.ga K "fresh")) := by
  obtain ⟨h, X, G, c⟩ := z.ex
  exact He.glo_ok X G (c.t.d.fact 54 rfl)
theorem Cz.glo_top_place (z : Cz w K mg) : mg "top_place" = some (.ref (He.ga K "top_place")) := by
  obtain ⟨h, X, G, c⟩ := z.ex
  exact He.glo_ok X G (c.t.d.fact 55 rfl)
theorem Cz.glo_inner_place (z : Cz w K mg) : mg "inner_place" = some (.ref (He.ga K "inner_place")) := by
  obtain ⟨h, X, G, c⟩ := z.ex
  exact He.glo_ok X G (c.t.d.fact 56 rfl)
theorem Cz.glo_fits (z : Cz w K mg) : mg "fits" = some (.ref (He.ga K "fits")) := by
  obtain ⟨h, X, G, c⟩ := z.ex
  exact He.glo_ok X G (c.t.d.fact 57 rfl)
theorem Cz.glo__rows (z : Cz w K mg) : mg "_rows" = some (.ref (He.ga K "_rows")) := by
  obtain ⟨h, X, G, c⟩ := z.ex
  exact He.glo_ok X G (c.t.d.fact 58 rfl)
theorem Cz.glo_survey (z : Cz w K mg) : mg "survey" = some (.ref (He.ga K "survey")) := by
  obtain ⟨h, X, G, c⟩ := z.ex
  exact He.glo_ok X G (c.t.d.fact 59 rfl)
theorem Cz.glo_is_path (z : Cz w K mg) : mg "is_path" = some (.ref (He.ga K "is_path")) := by
  obtain ⟨h, X, G, c⟩ := z.ex
  exact He.glo_ok X G (c.t.d.fact 60 rfl)
theorem Cz.glo_is_code (z : Cz w K mg) : mg "is_code" = some (.ref (He.ga K "is_code")) := by
  obtain ⟨h, X, G, c⟩ := z.ex
  exact He.glo_ok X G (c.t.d.fact 61 rfl)
theorem Cz.glo__law_source (z : Cz w K mg) : mg "_law_source" = some (.ref (He.ga K "_law_source")) := by
  obtain ⟨h, X, G, c⟩ := z.ex
  exact He.glo_ok X G (c.t.d.fact 62 rfl)
theorem Cz.glo__law_draw (z : Cz w K mg) : mg "_law_draw" = some (.ref (He.ga K "_law_draw")) := by
  obtain ⟨h, X, G, c⟩ := z.ex
  exact He.glo_ok X G (c.t.d.fact 63 rfl)
theorem Cz.glo__law_words (z : Cz w K mg) : mg "_law_words" = some (.ref (He.ga K "_law_words")) := by
  obtain ⟨h, X, G, c⟩ := z.ex
  exact He.glo_ok X G (c.t.d.fact 64 rfl)
theorem Cz.glo__law_name (z : Cz w K mg) : mg "_law_name" = some (.ref (He.ga K "_law_name")) := by
  obtain ⟨h, X, G, c⟩ := z.ex
  exact He.glo_ok X G (c.t.d.fact 65 rfl)
theorem Cz.glo__law_phrase (z : Cz w K mg) : mg "_law_phrase" = some (.ref (He.ga K "_law_phrase")) := by
  obtain ⟨h, X, G, c⟩ := z.ex
  exact He.glo_ok X G (c.t.d.fact 66 rfl)
theorem Cz.glo__law_leaf (z : Cz w K mg) : mg "_law_leaf" = some (.ref (He.ga K "_law_leaf")) := by
  obtain ⟨h, X, G, c⟩ := z.ex
  exact He.glo_ok X G (c.t.d.fact 67 rfl)
theorem Cz.glo__law_expression (z : Cz w K mg) : mg "_law_expression" = some (.ref (He.ga K "_law_expression")) := by
  obtain ⟨h, X, G, c⟩ := z.ex
  exact He.glo_ok X G (c.t.d.fact 68 rfl)
theorem Cz.glo__law_params (z : Cz w K mg) : mg "_law_params" = some (.ref (He.ga K "_law_params")) := by
  obtain ⟨h, X, G, c⟩ := z.ex
  exact He.glo_ok X G (c.t.d.fact 69 rfl)
theorem Cz.glo__law_call (z : Cz w K mg) : mg "_law_call" = some (.ref (He.ga K "_law_call")) := by
  obtain ⟨h, X, G, c⟩ := z.ex
  exact He.glo_ok X G (c.t.d.fact 70 rfl)
theorem Cz.glo__law_simple (z : Cz w K mg) : mg "_law_simple" = some (.ref (He.ga K "_law_simple")) := by
  obtain ⟨h, X, G, c⟩ := z.ex
  exact He.glo_ok X G (c.t.d.fact 71 rfl)
theorem Cz.glo__law_class (z : Cz w K mg) : mg "_law_class" = some (.ref (He.ga K "_law_class")) := by
  obtain ⟨h, X, G, c⟩ := z.ex
  exact He.glo_ok X G (c.t.d.fact 72 rfl)
theorem Cz.glo__law_try (z : Cz w K mg) : mg "_law_try" = some (.ref (He.ga K "_law_try")) := by
  obtain ⟨h, X, G, c⟩ := z.ex
  exact He.glo_ok X G (c.t.d.fact 73 rfl)
theorem Cz.glo__law_statement (z : Cz w K mg) : mg "_law_statement" = some (.ref (He.ga K "_law_statement")) := by
  obtain ⟨h, X, G, c⟩ := z.ex
  exact He.glo_ok X G (c.t.d.fact 74 rfl)
theorem Cz.glo__law_block (z : Cz w K mg) : mg "_law_block" = some (.ref (He.ga K "_law_block")) := by
  obtain ⟨h, X, G, c⟩ := z.ex
  exact He.glo_ok X G (c.t.d.fact 75 rfl)
theorem Cz.glo__law_top (z : Cz w K mg) : mg "_law_top" = some (.ref (He.ga K "_law_top")) := by
  obtain ⟨h, X, G, c⟩ := z.ex
  exact He.glo_ok X G (c.t.d.fact 76 rfl)
theorem Cz.glo__law_inner (z : Cz w K mg) : mg "_law_inner" = some (.ref (He.ga K "_law_inner")) := by
  obtain ⟨h, X, G, c⟩ := z.ex
  exact He.glo_ok X G (c.t.d.fact 77 rfl)
theorem Cz.glo__law_rows (z : Cz w K mg) : mg "_law_rows" = some (.ref (He.ga K "_law_rows")) := by
  obtain ⟨h, X, G, c⟩ := z.ex
  exact He.glo_ok X G (c.t.d.fact 78 rfl)
theorem Cz.glo__law_same (z : Cz w K mg) : mg "_law_same" = some (.ref (He.ga K "_law_same")) := by
  obtain ⟨h, X, G, c⟩ := z.ex
  exact He.glo_ok X G (c.t.d.fact 79 rfl)
theorem Cz.glo__law_are_paths (z : Cz w K mg) : mg "_law_are_paths" = some (.ref (He.ga K "_law_are_paths")) := by
  obtain ⟨h, X, G, c⟩ := z.ex
  exact He.glo_ok X G (c.t.d.fact 80 rfl)
theorem Cz.glo__law_of_block (z : Cz w K mg) : mg "_law_of_block" = some (.ref (He.ga K "_law_of_block")) := by
  obtain ⟨h, X, G, c⟩ := z.ex
  exact He.glo_ok X G (c.t.d.fact 81 rfl)
theorem Cz.glo_law (z : Cz w K mg) : mg "law" = some (.ref (He.ga K "law")) := by
  obtain ⟨h, X, G, c⟩ := z.ex
  exact He.glo_ok X G (c.t.d.fact 82 rfl)
theorem Cz.glo_AnswerError (z : Cz w K mg) : mg "AnswerError" = some (.ref (He.ga K "AnswerError")) := by
  obtain ⟨h, X, G, c⟩ := z.ex
  exact He.glo_ok X G (c.t.d.fact 83 rfl)
theorem Cz.glo_NoPath (z : Cz w K mg) : mg "NoPath" = some (.ref (He.ga K "NoPath")) := by
  obtain ⟨h, X, G, c⟩ := z.ex
  exact He.glo_ok X G (c.t.d.fact 84 rfl)
theorem Cz.glo_NoCode (z : Cz w K mg) : mg "NoCode" = some (.ref (He.ga K "NoCode")) := by
  obtain ⟨h, X, G, c⟩ := z.ex
  exact He.glo_ok X G (c.t.d.fact 85 rfl)
theorem Cz.glo_NoProgram (z : Cz w K mg) : mg "NoProgram" = some (.ref (He.ga K "NoProgram")) := by
  obtain ⟨h, X, G, c⟩ := z.ex
  exact He.glo_ok X G (c.t.d.fact 86 rfl)
theorem Cz.glo_Place (z : Cz w K mg) : mg "Place" = some (.ref (He.ga K "Place")) := by
  obtain ⟨h, X, G, c⟩ := z.ex
  exact He.glo_ok X G (c.t.d.fact 87 rfl)
theorem Cz.glo_Layout (z : Cz w K mg) : mg "Layout" = some (.ref (He.ga K "Layout")) := by
  obtain ⟨h, X, G, c⟩ := z.ex
  exact He.glo_ok X G (c.t.d.fact 88 rfl)
theorem Cz.glo_Program (z : Cz w K mg) : mg "Program" = some (.ref (He.ga K "Program")) := by
  obtain ⟨h, X, G, c⟩ := z.ex
  exact He.glo_ok X G (c.t.d.fact 89 rfl)
theorem Cz.cls_Place (z : Cz w K mg) : Cls K (He.ga K "Place") := by
  obtain ⟨h, X, G, c⟩ := z.ex
  exact He.cls_ok (c.t.d.fact 90 rfl)
theorem Cz.mkr_Place (z : Cz w K mg) : Mk K (He.ga K "Place") (He.ma K (He.ga K "Place") "__init__") := by
  obtain ⟨h, X, G, c⟩ := z.ex
  exact He.mkr_ok (c.t.d.fact 91 rfl)
theorem Cz.noat_Place_depth (z : Cz w K mg) : NoAttr K (He.ga K "Place") "depth" := by
  obtain ⟨h, X, G, c⟩ := z.ex
  exact He.noat_ok (c.t.d.fact 92 rfl)
theorem Cz.noat_Place_routine (z : Cz w K mg) : NoAttr K (He.ga K "Place") "routine" := by
  obtain ⟨h, X, G, c⟩ := z.ex
  exact He.noat_ok (c.t.d.fact 93 rfl)
theorem Cz.noat_Place_looping (z : Cz w K mg) : NoAttr K (He.ga K "Place") "looping" := by
  obtain ⟨h, X, G, c⟩ := z.ex
  exact He.noat_ok (c.t.d.fact 94 rfl)
theorem Cz.cls_Layout (z : Cz w K mg) : Cls K (He.ga K "Layout") := by
  obtain ⟨h, X, G, c⟩ := z.ex
  exact He.cls_ok (c.t.d.fact 95 rfl)
theorem Cz.mkr_Layout (z : Cz w K mg) : Mk K (He.ga K "Layout") (He.ma K (He.ga K "Layout") "__init__") := by
  obtain ⟨h, X, G, c⟩ := z.ex
  exact He.mkr_ok (c.t.d.fact 96 rfl)
theorem Cz.noat_Layout_order (z : Cz w K mg) : NoAttr K (He.ga K "Layout") "order" := by
  obtain ⟨h, X, G, c⟩ := z.ex
  exact He.noat_ok (c.t.d.fact 97 rfl)
theorem Cz.noat_Layout_statements (z : Cz w K mg) : NoAttr K (He.ga K "Layout") "statements" := by
  obtain ⟨h, X, G, c⟩ := z.ex
  exact He.noat_ok (c.t.d.fact 98 rfl)
theorem Cz.noat_Layout_routines (z : Cz w K mg) : NoAttr K (He.ga K "Layout") "routines" := by
  obtain ⟨h, X, G, c⟩ := z.ex
  exact He.noat_ok (c.t.d.fact 99 rfl)
theorem Cz.noat_Layout_bodies (z : Cz w K mg) : NoAttr K (He.ga K "Layout") "bodies" := by
  obtain ⟨h, X, G, c⟩ := z.ex
  exact He.noat_ok (c.t.d.fact 100 rfl)
theorem Cz.noat_Layout_parameters (z : Cz w K mg) : NoAttr K (He.ga K "Layout") "parameters" := by
  obtain ⟨h, X, G, c⟩ := z.ex
  exact He.noat_ok (c.t.d.fact 101 rfl)
theorem Cz.meth_Layout__keep (z : Cz w K mg) : Meth K (He.ga K "Layout") "_keep" (He.ma K (He.ga K "Layout") "_keep") := by
  obtain ⟨h, X, G, c⟩ := z.ex
  exact He.meth_ok (c.t.d.fact 102 rfl)
theorem Cz.meth_Layout_code_around (z : Cz w K mg) : Meth K (He.ga K "Layout") "code_around" (He.ma K (He.ga K "Layout") "code_around") := by
  obtain ⟨h, X, G, c⟩ := z.ex
  exact He.meth_ok (c.t.d.fact 103 rfl)
theorem Cz.cls_Program (z : Cz w K mg) : Cls K (He.ga K "Program") := by
  obtain ⟨h, X, G, c⟩ := z.ex
  exact He.cls_ok (c.t.d.fact 104 rfl)
theorem Cz.mkr_Program (z : Cz w K mg) : Mk K (He.ga K "Program") (He.ma K (He.ga K "Program") "__init__") := by
  obtain ⟨h, X, G, c⟩ := z.ex
  exact He.mkr_ok (c.t.d.fact 105 rfl)
theorem Cz.noat_Program__top (z : Cz w K mg) : NoAttr K (He.ga K "Program") "_top" := by
  obtain ⟨h, X, G, c⟩ := z.ex
  exact He.noat_ok (c.t.d.fact 106 rfl)
theorem Cz.noat_Program_layout (z : Cz w K mg) : NoAttr K (He.ga K "Program") "layout" := by
  obtain ⟨h, X, G, c⟩ := z.ex
  exact He.noat_ok (c.t.d.fact 107 rfl)
theorem Cz.meth_Program_block (z : Cz w K mg) : Meth K (He.ga K "Program") "block" (He.ma K (He.ga K "Program") "block") := by
  obtain ⟨h, X, G, c⟩ := z.ex
  exact He.meth_ok (c.t.d.fact 108 rfl)
theorem Cz.meth_Program___getitem__ (z : Cz w K mg) : Meth K (He.ga K "Program") "__getitem__" (He.ma K (He.ga K "Program") "__getitem__") := by
  obtain ⟨h, X, G, c⟩ := z.ex
  exact He.meth_ok (c.t.d.fact 109 rfl)
theorem Cz.meth_Program___len__ (z : Cz w K mg) : Meth K (He.ga K "Program") "__len__" (He.ma K (He.ga K "Program") "__len__") := by
  obtain ⟨h, X, G, c⟩ := z.ex
  exact He.meth_ok (c.t.d.fact 110 rfl)
theorem Cz.meth_Program_paths (z : Cz w K mg) : Meth K (He.ga K "Program") "paths" (He.ma K (He.ga K "Program") "paths") := by
  obtain ⟨h, X, G, c⟩ := z.ex
  exact He.meth_ok (c.t.d.fact 111 rfl)
theorem Cz.meth_Program_codes (z : Cz w K mg) : Meth K (He.ga K "Program") "codes" (He.ma K (He.ga K "Program") "codes") := by
  obtain ⟨h, X, G, c⟩ := z.ex
  exact He.meth_ok (c.t.d.fact 112 rfl)
theorem Cz.meth_Program_body (z : Cz w K mg) : Meth K (He.ga K "Program") "body" (He.ma K (He.ga K "Program") "body") := by
  obtain ⟨h, X, G, c⟩ := z.ex
  exact He.meth_ok (c.t.d.fact 113 rfl)
theorem Cz.meth_Program___eq__ (z : Cz w K mg) : Meth K (He.ga K "Program") "__eq__" (He.ma K (He.ga K "Program") "__eq__") := by
  obtain ⟨h, X, G, c⟩ := z.ex
  exact He.meth_ok (c.t.d.fact 114 rfl)
theorem Cz.exm_AnswerError (z : Cz w K mg) : PySem.W.exmOne K (.ref (He.ga K "AnswerError")) (.ref (He.ga K "AnswerError")) = some true := by
  obtain ⟨h, X, G, c⟩ := z.ex
  exact He.exm_ok (c.t.d.fact 115 rfl)
theorem Cz.exm_NoPath (z : Cz w K mg) : PySem.W.exmOne K (.ref (He.ga K "NoPath")) (.ref (He.ga K "NoPath")) = some true := by
  obtain ⟨h, X, G, c⟩ := z.ex
  exact He.exm_ok (c.t.d.fact 116 rfl)
theorem Cz.exm_NoCode (z : Cz w K mg) : PySem.W.exmOne K (.ref (He.ga K "NoCode")) (.ref (He.ga K "NoCode")) = some true := by
  obtain ⟨h, X, G, c⟩ := z.ex
  exact He.exm_ok (c.t.d.fact 117 rfl)
theorem Cz.exm_NoProgram (z : Cz w K mg) : PySem.W.exmOne K (.ref (He.ga K "NoProgram")) (.ref (He.ga K "NoProgram")) = some true := by
  obtain ⟨h, X, G, c⟩ := z.ex
  exact He.exm_ok (c.t.d.fact 118 rfl)
theorem Cz.dict_EXPRESSIONS (z : Cz w K mg) : ∃ es n, KDict K w (He.ga K "EXPRESSIONS") es n := by
  obtain ⟨h, X, G, c⟩ := z.ex
  exact c.t.tab 0 rfl
theorem Cz.look_EXPRESSIONS (z : Cz w K mg) (x : Str) : ∃ r, PySem.W.nsIn K (He.ga K "EXPRESSIONS") x = some r ∧ Fnd r ((k_EXPRESSIONS K).lookup x) := tab_look (z.bit 3 rfl) x
theorem Cz.vals_EXPRESSIONS (z : Cz w K mg) {p : Str × List Str} (h : p ∈ t_EXPRESSIONS) (H : Hp) : SqT K H (atK "EXPRESSIONS" p.1 K) (p.2.map V.str) := tupA_ok (List.all_eq_true.mp (z.bit 4 rfl) p h) H
theorem Cz.dict_STATEMENTS (z : Cz w K mg) : ∃ es n, KDict K w (He.ga K "STATEMENTS") es n := by
  obtain ⟨h, X, G, c⟩ := z.ex
  exact c.t.tab 1 rfl
theorem Cz.look_STATEMENTS (z : Cz w K mg) (x : Str) : ∃ r, PySem.W.nsIn K (He.ga K "STATEMENTS") x = some r ∧ Fnd r ((k_STATEMENTS K).lookup x) := tab_look (z.bit 5 rfl) x
theorem Cz.vals_STATEMENTS (z : Cz w K mg) {p : Str × List Str} (h : p ∈ t_STATEMENTS) (H : Hp) : SqT K H (atK "STATEMENTS" p.1 K) (p.2.map V.str) := tupA_ok (List.all_eq_true.mp (z.bit 6 rfl) p h) H
theorem Cz.dict_PLAIN_PARTS (z : Cz w K mg) : ∃ es n, KDict K w (He.ga K "PLAIN_PARTS") es n := by
  obtain ⟨h, X, G, c⟩ := z.ex
  exact c.t.tab 2 rfl
theorem Cz.look_PLAIN_PARTS (z : Cz w K mg) (x : Str) : ∃ r, PySem.W.nsIn K (He.ga K "PLAIN_PARTS") x = some r ∧ Fnd r ((k_PLAIN_PARTS K).lookup x) := tab_look (z.bit 7 rfl) x
theorem Cz.tup_WORDS (z : Cz w K mg) (H : Hp) : SqT K H (He.ga K "WORDS") (v_WORDS.map V.str) := tupA_ok (z.bit 0 rfl) H
theorem Cz.tup_SIGNS (z : Cz w K mg) (H : Hp) : SqT K H (He.ga K "SIGNS") (v_SIGNS.map V.str) := tupA_ok (z.bit 1 rfl) H
theorem Cz.tup_HOWS (z : Cz w K mg) (H : Hp) : SqT K H (He.ga K "HOWS") (v_HOWS.map V.str) := tupA_ok (z.bit 2 rfl) H
theorem Cz.xf_AnswerError (z : Cz w K mg) : XfC K (He.ga K "AnswerError") := xfB_ok (z.bit 9 rfl)
theorem Cz.ise_AnswerError (z : Cz w K mg) : isEB K (He.ga K "AnswerError") = true := z.bit 10 rfl
theorem Cz.xf_NoPath (z : Cz w K mg) : XfC K (He.ga K "NoPath") := xfB_ok (z.bit 12 rfl)
theorem Cz.ise_NoPath (z : Cz w K mg) : isEB K (He.ga K "NoPath") = true := z.bit 13 rfl
theorem Cz.xf_NoCode (z : Cz w K mg) : XfC K (He.ga K "NoCode") := xfB_ok (z.bit 15 rfl)
theorem Cz.ise_NoCode (z : Cz w K mg) : isEB K (He.ga K "NoCode") = true := z.bit 16 rfl
theorem Cz.oex_NoProgram (z : Cz w K mg) : OexC K (He.ga K "NoProgram") := oexB_ok (z.bit 17 rfl) (z.bit 26 rfl)
theorem Cz.exno_NoProgram_path (z : Cz w K mg) : PySem.W.findIn K (.ref (He.ga K "NoProgram")) "path" = some none := of_decide_eq_true (z.bit 18 rfl)
theorem Cz.exini_NoProgram (z : Cz w K mg) : PySem.W.findIn K (.ref (He.ga K "NoProgram")) "__init__" = some (some (.ref (He.ma K (He.ga K "NoProgram") "__init__"))) := of_decide_eq_true (z.bit 19 rfl)
theorem Cz.exfun_NoProgram (z : Cz w K mg) : PySem.W.typeIn K (.ref (He.ma K (He.ga K "NoProgram") "__init__")) = some (.type "function") := of_decide_eq_true (z.bit 20 rfl)
theorem Cz.xf_NoProgram (z : Cz w K mg) : XfC K (He.ga K "NoProgram") := xfB_ok (z.bit 27 rfl)
theorem Cz.ise_NoProgram (z : Cz w K mg) : isEB K (He.ga K "NoProgram") = true := z.bit 28 rfl
theorem Cz.fnin_Program___getitem__ (z : Cz w K mg) : PySem.W.fnIn K (He.ma K (He.ga K "Program") "__getitem__") = true := z.bit 29 rfl
theorem Cz.kit_NoProgram_AnswerError (z : Cz w K mg) : PySem.W.kitOne K (.ref (He.ga K "NoProgram")) (.ref (He.ga K "AnswerError")) = some true := of_decide_eq_true (z.bit 21 rfl)
theorem Cz.kit_NoProgram_NoPath (z : Cz w K mg) : PySem.W.kitOne K (.ref (He.ga K "NoProgram")) (.ref (He.ga K "NoPath")) = some false := of_decide_eq_true (z.bit 22 rfl)
theorem Cz.kit_NoProgram_NoCode (z : Cz w K mg) : PySem.W.kitOne K (.ref (He.ga K "NoProgram")) (.ref (He.ga K "NoCode")) = some false := of_decide_eq_true (z.bit 23 rfl)
theorem Cz.kit_NoProgram_NoProgram (z : Cz w K mg) : PySem.W.kitOne K (.ref (He.ga K "NoProgram")) (.ref (He.ga K "NoProgram")) = some true := of_decide_eq_true (z.bit 24 rfl)
theorem Cz.kit_NoProgram_ValueError (z : Cz w K mg) : PySem.W.kitOne K (.ref (He.ga K "NoProgram")) (.type "ValueError") = some true := of_decide_eq_true (z.bit 25 rfl)
theorem Cz.fn__wall (z : Cz w K mg) : ∃ fd, FunD K "_wall" "_wall" (defArgs s__wall) (defBody s__wall) (defScope s__wall) [] [] (He.fAd K ("_wall", none)) fd ∧ Binds K fd ["k"] [] := by
  obtain ⟨h, X, G, c⟩ := z.ex
  obtain ⟨fd, F⟩ := c.t.d.def_ 0 (d := d__wall) rfl
  exact ⟨fd, F, FunD.bindsN F fun _ _ _ _ _ _ us hl => match us, hl with | [_], _ => rfl⟩
theorem Cz.fn_NoProgram_init (z : Cz w K mg) : ∃ fd, FunD K "__init__" "NoProgram.__init__" (defArgs s_NoProgram_init) (defBody s_NoProgram_init) (defScope s_NoProgram_init) [] [] (He.fAd K ("NoProgram", some "__init__")) fd ∧ Binds K fd ["self", "path"] [] := by
  obtain ⟨h, X, G, c⟩ := z.ex
  obtain ⟨fd, F⟩ := c.t.d.def_ 1 (d := d_NoProgram_init) rfl
  exact ⟨fd, F, FunD.bindsN F fun _ _ _ _ _ _ us hl => match us, hl with | [_, _], _ => rfl⟩
theorem Cz.fn_is_integer (z : Cz w K mg) : ∃ fd, FunD K "is_integer" "is_integer" (defArgs s_is_integer) (defBody s_is_integer) (defScope s_is_integer) [] [] (He.fAd K ("is_integer", none)) fd ∧ Binds K fd ["thing"] [] := by
  obtain ⟨h, X, G, c⟩ := z.ex
  obtain ⟨fd, F⟩ := c.t.d.def_ 2 (d := d_is_integer) rfl
  exact ⟨fd, F, FunD.bindsN F fun _ _ _ _ _ _ us hl => match us, hl with | [_], _ => rfl⟩
theorem Cz.fn_is_integers (z : Cz w K mg) : ∃ fd, FunD K "is_integers" "is_integers" (defArgs s_is_integers) (defBody s_is_integers) (defScope s_is_integers) [] [] (He.fAd K ("is_integers", none)) fd ∧ Binds K fd ["thing"] [] := by
  obtain ⟨h, X, G, c⟩ := z.ex
  obtain ⟨fd, F⟩ := c.t.d.def_ 3 (d := d_is_integers) rfl
  exact ⟨fd, F, FunD.bindsN F fun _ _ _ _ _ _ us hl => match us, hl with | [_], _ => rfl⟩
theorem Cz.fn_is_name (z : Cz w K mg) : ∃ fd, FunD K "is_name" "is_name" (defArgs s_is_name) (defBody s_is_name) (defScope s_is_name) [] [] (He.fAd K ("is_name", none)) fd ∧ Binds K fd ["thing"] [] := by
  obtain ⟨h, X, G, c⟩ := z.ex
  obtain ⟨fd, F⟩ := c.t.d.def_ 4 (d := d_is_name) rfl
  exact ⟨fd, F, FunD.bindsN F fun _ _ _ _ _ _ us hl => match us, hl with | [_], _ => rfl⟩
theorem Cz.fn_is_phrase (z : Cz w K mg) : ∃ fd, FunD K "is_phrase" "is_phrase" (defArgs s_is_phrase) (defBody s_is_phrase) (defScope s_is_phrase) [] [] (He.fAd K ("is_phrase", none)) fd ∧ Binds K fd ["thing"] [] := by
  obtain ⟨h, X, G, c⟩ := z.ex
  obtain ⟨fd, F⟩ := c.t.d.def_ 5 (d := d_is_phrase) rfl
  exact ⟨fd, F, FunD.bindsN F fun _ _ _ _ _ _ us hl => match us, hl with | [_], _ => rfl⟩
theorem Cz.fn_is_written_number (z : Cz w K mg) : ∃ fd, FunD K "is_written_number" "is_written_number" (defArgs s_is_written_number) (defBody s_is_written_number) (defScope s_is_written_number) [] [] (He.fAd K ("is_written_number", none)) fd ∧ Binds K fd ["thing"] [] := by
  obtain ⟨h, X, G, c⟩ := z.ex
  obtain ⟨fd, F⟩ := c.t.d.def_ 6 (d := d_is_written_number) rfl
  exact ⟨fd, F, FunD.bindsN F fun _ _ _ _ _ _ us hl => match us, hl with | [_], _ => rfl⟩
theorem Cz.fn_is_sign (z : Cz w K mg) : ∃ fd, FunD K "is_sign" "is_sign" (defArgs s_is_sign) (defBody s_is_sign) (defScope s_is_sign) [] [] (He.fAd K ("is_sign", none)) fd ∧ Binds K fd ["thing"] [] := by
  obtain ⟨h, X, G, c⟩ := z.ex
  obtain ⟨fd, F⟩ := c.t.d.def_ 7 (d := d_is_sign) rfl
  exact ⟨fd, F, FunD.bindsN F fun _ _ _ _ _ _ us hl => match us, hl with | [_], _ => rfl⟩
theorem Cz.fn_is_how (z : Cz w K mg) : ∃ fd, FunD K "is_how" "is_how" (defArgs s_is_how) (defBody s_is_how) (defScope s_is_how) [] [] (He.fAd K ("is_how", none)) fd ∧ Binds K fd ["thing"] [] := by
  obtain ⟨h, X, G, c⟩ := z.ex
  obtain ⟨fd, F⟩ := c.t.d.def_ 8 (d := d_is_how) rfl
  exact ⟨fd, F, FunD.bindsN F fun _ _ _ _ _ _ us hl => match us, hl with | [_], _ => rfl⟩
theorem Cz.fn_is_perhaps_name (z : Cz w K mg) : ∃ fd, FunD K "is_perhaps_name" "is_perhaps_name" (defArgs s_is_perhaps_name) (defBody s_is_perhaps_name) (defScope s_is_perhaps_name) [] [] (He.fAd K ("is_perhaps_name", none)) fd ∧ Binds K fd ["thing"] [] := by
  obtain ⟨h, X, G, c⟩ := z.ex
  obtain ⟨fd, F⟩ := c.t.d.def_ 9 (d := d_is_perhaps_name) rfl
  exact ⟨fd, F, FunD.bindsN F fun _ _ _ _ _ _ us hl => match us, hl with | [_], _ => rfl⟩
theorem Cz.fn_is_block (z : Cz w K mg) : ∃ fd, FunD K "is_block" "is_block" (defArgs s_is_block) (defBody s_is_block) (defScope s_is_block) [] [] (He.fAd K ("is_block", none)) fd ∧ Binds K fd ["thing"] [] := by
  obtain ⟨h, X, G, c⟩ := z.ex
  obtain ⟨fd, F⟩ := c.t.d.def_ 10 (d := d_is_block) rfl
  exact ⟨fd, F, FunD.bindsN F fun _ _ _ _ _ _ us hl => match us, hl with | [_], _ => rfl⟩
theorem Cz.fn_is_parameters (z : Cz w K mg) : ∃ fd, FunD K "is_parameters" "is_parameters" (defArgs s_is_parameters) (defBody s_is_parameters) (defScope s_is_parameters) [] [] (He.fAd K ("is_parameters", none)) fd ∧ Binds K fd ["thing"] [] := by
  obtain ⟨h, X, G, c⟩ := z.ex
  obtain ⟨fd, F⟩ := c.t.d.def_ 11 (d := d_is_parameters) rfl
  exact ⟨fd, F, FunD.bindsN F fun _ _ _ _ _ _ us hl => match us, hl with | [_], _ => rfl⟩
theorem Cz.fn_is_method (z : Cz w K mg) : ∃ fd, FunD K "is_method" "is_method" (defArgs s_is_method) (defBody s_is_method) (defScope s_is_method) [] [] (He.fAd K ("is_method", none)) fd ∧ Binds K fd ["thing"] [] := by
  obtain ⟨h, X, G, c⟩ := z.ex
  obtain ⟨fd, F⟩ := c.t.d.def_ 12 (d := d_is_method) rfl
  exact ⟨fd, F, FunD.bindsN F fun _ _ _ _ _ _ us hl => match us, hl with | [_], _ => rfl⟩
theorem Cz.fn_is_methods (z : Cz w K mg) : ∃ fd, FunD K "is_methods" "is_methods" (defArgs s_is_methods) (defBody s_is_methods) (defScope s_is_methods) [] [] (He.fAd K ("is_methods", none)) fd ∧ Binds K fd ["thing"] [] := by
  obtain ⟨h, X, G, c⟩ := z.ex
  obtain ⟨fd, F⟩ := c.t.d.def_ 13 (d := d_is_methods) rfl
  exact ⟨fd, F, FunD.bindsN F fun _ _ _ _ _ _ us hl => match us, hl with | [_], _ => rfl⟩
theorem Cz.fn_is_expressions (z : Cz w K mg) : ∃ fd, FunD K "is_expressions" "is_expressions" (defArgs s_is_expressions) (defBody s_is_expressions) (defScope s_is_expressions) [] [] (He.fAd K ("is_expressions", none)) fd ∧ Binds K fd ["thing", "most", "depth"] [] := by
  obtain ⟨h, X, G, c⟩ := z.ex
  obtain ⟨fd, F⟩ := c.t.d.def_ 14 (d := d_is_expressions) rfl
  exact ⟨fd, F, FunD.bindsN F fun _ _ _ _ _ _ us hl => match us, hl with | [_, _, _], _ => rfl⟩
theorem Cz.fn_is_row (z : Cz w K mg) : ∃ fd, FunD K "is_row" "is_row" (defArgs s_is_row) (defBody s_is_row) (defScope s_is_row) [] [] (He.fAd K ("is_row", none)) fd ∧ Binds K fd ["thing", "depth"] [] := by
  obtain ⟨h, X, G, c⟩ := z.ex
  obtain ⟨fd, F⟩ := c.t.d.def_ 15 (d := d_is_row) rfl
  exact ⟨fd, F, FunD.bindsN F fun _ _ _ _ _ _ us hl => match us, hl with | [_, _], _ => rfl⟩
theorem Cz.fn_is_rows (z : Cz w K mg) : ∃ fd, FunD K "is_rows" "is_rows" (defArgs s_is_rows) (defBody s_is_rows) (defScope s_is_rows) [] [] (He.fAd K ("is_rows", none)) fd ∧ Binds K fd ["thing", "depth"] [] := by
  obtain ⟨h, X, G, c⟩ := z.ex
  obtain ⟨fd, F⟩ := c.t.d.def_ 16 (d := d_is_rows) rfl
  exact ⟨fd, F, FunD.bindsN F fun _ _ _ _ _ _ us hl => match us, hl with | [_, _], _ => rfl⟩
theorem Cz.fn_is_part (z : Cz w K mg) : ∃ fd, FunD K "is_part" "is_part" (defArgs s_is_part) (defBody s_is_part) (defScope s_is_part) [] [] (He.fAd K ("is_part", none)) fd ∧ Binds K fd ["kind", "thing", "depth"] [] := by
  obtain ⟨h, X, G, c⟩ := z.ex
  obtain ⟨fd, F⟩ := c.t.d.def_ 17 (d := d_is_part) rfl
  exact ⟨fd, F, FunD.bindsN F fun _ _ _ _ _ _ us hl => match us, hl with | [_, _, _], _ => rfl⟩
theorem Cz.fn_first_word (z : Cz w K mg) : ∃ fd, FunD K "first_word" "first_word" (defArgs s_first_word) (defBody s_first_word) (defScope s_first_word) [] [] (He.fAd K ("first_word", none)) fd ∧ Binds K fd ["thing"] [] := by
  obtain ⟨h, X, G, c⟩ := z.ex
  obtain ⟨fd, F⟩ := c.t.d.def_ 18 (d := d_first_word) rfl
  exact ⟨fd, F, FunD.bindsN F fun _ _ _ _ _ _ us hl => match us, hl with | [_], _ => rfl⟩
theorem Cz.fn_has_parts (z : Cz w K mg) : ∃ fd, FunD K "has_parts" "has_parts" (defArgs s_has_parts) (defBody s_has_parts) (defScope s_has_parts) [] [] (He.fAd K ("has_parts", none)) fd ∧ Binds K fd ["thing", "kinds", "depth"] [] := by
  obtain ⟨h, X, G, c⟩ := z.ex
  obtain ⟨fd, F⟩ := c.t.d.def_ 19 (d := d_has_parts) rfl
  exact ⟨fd, F, FunD.bindsN F fun _ _ _ _ _ _ us hl => match us, hl with | [_, _, _], _ => rfl⟩
theorem Cz.fn_is_expression (z : Cz w K mg) : ∃ fd, FunD K "is_expression" "is_expression" (defArgs s_is_expression) (defBody s_is_expression) (defScope s_is_expression) [] [] (He.fAd K ("is_expression", none)) fd ∧ Binds K fd ["thing", "depth"] [] := by
  obtain ⟨h, X, G, c⟩ := z.ex
  obtain ⟨fd, F⟩ := c.t.d.def_ 20 (d := d_is_expression) rfl
  exact ⟨fd, F, FunD.bindsN F fun _ _ _ _ _ _ us hl => match us, hl with | [_, _], _ => rfl⟩
theorem Cz.fn_is_statement (z : Cz w K mg) : ∃ fd, FunD K "is_statement" "is_statement" (defArgs s_is_statement) (defBody s_is_statement) (defScope s_is_statement) [] [] (He.fAd K ("is_statement", none)) fd ∧ Binds K fd ["thing"] [] := by
  obtain ⟨h, X, G, c⟩ := z.ex
  obtain ⟨fd, F⟩ := c.t.d.def_ 21 (d := d_is_statement) rfl
  exact ⟨fd, F, FunD.bindsN F fun _ _ _ _ _ _ us hl => match us, hl with | [_], _ => rfl⟩
theorem Cz.fn_expressions_of (z : Cz w K mg) : ∃ fd, FunD K "expressions_of" "expressions_of" (defArgs s_expressions_of) (defBody s_expressions_of) (defScope s_expressions_of) [] [] (He.fAd K ("expressions_of", none)) fd ∧ Binds K fd ["statement"] [] := by
  obtain ⟨h, X, G, c⟩ := z.ex
  obtain ⟨fd, F⟩ := c.t.d.def_ 22 (d := d_expressions_of) rfl
  exact ⟨fd, F, FunD.bindsN F fun _ _ _ _ _ _ us hl => match us, hl with | [_], _ => rfl⟩
theorem Cz.fn_blocks_of (z : Cz w K mg) : ∃ fd, FunD K "blocks_of" "blocks_of" (defArgs s_blocks_of) (defBody s_blocks_of) (defScope s_blocks_of) [] [] (He.fAd K ("blocks_of", none)) fd ∧ Binds K fd ["statement"] [] := by
  obtain ⟨h, X, G, c⟩ := z.ex
  obtain ⟨fd, F⟩ := c.t.d.def_ 23 (d := d_blocks_of) rfl
  exact ⟨fd, F, FunD.bindsN F fun _ _ _ _ _ _ us hl => match us, hl with | [_], _ => rfl⟩
theorem Cz.fn_has_above (z : Cz w K mg) : ∃ fd, FunD K "has_above" "has_above" (defArgs s_has_above) (defBody s_has_above) (defScope s_has_above) [] [] (He.fAd K ("has_above", none)) fd ∧ Binds K fd ["thing"] [] := by
  obtain ⟨h, X, G, c⟩ := z.ex
  obtain ⟨fd, F⟩ := c.t.d.def_ 24 (d := d_has_above) rfl
  exact ⟨fd, F, FunD.bindsN F fun _ _ _ _ _ _ us hl => match us, hl with | [_], _ => rfl⟩
theorem Cz.fn_fresh (z : Cz w K mg) : ∃ fd, FunD K "fresh" "fresh" (defArgs s_fresh) (defBody s_fresh) (defScope s_fresh) [] [] (He.fAd K ("fresh", none)) fd ∧ Binds K fd ["thing"] [] := by
  obtain ⟨h, X, G, c⟩ := z.ex
  obtain ⟨fd, F⟩ := c.t.d.def_ 25 (d := d_fresh) rfl
  exact ⟨fd, F, FunD.bindsN F fun _ _ _ _ _ _ us hl => match us, hl with | [_], _ => rfl⟩
theorem Cz.fn_Place_init (z : Cz w K mg) : ∃ fd, FunD K "__init__" "Place.__init__" (defArgs s_Place_init) (defBody s_Place_init) (defScope s_Place_init) [] [] (He.fAd K ("Place", some "__init__")) fd ∧ Binds K fd ["self", "depth", "routine", "looping"] [] := by
  obtain ⟨h, X, G, c⟩ := z.ex
  obtain ⟨fd, F⟩ := c.t.d.def_ 26 (d := d_Place_init) rfl
  exact ⟨fd, F, FunD.bindsN F fun _ _ _ _ _ _ us hl => match us, hl with | [_, _, _, _], _ => rfl⟩
theorem Cz.fn_top_place (z : Cz w K mg) : ∃ fd, FunD K "top_place" "top_place" (defArgs s_top_place) (defBody s_top_place) (defScope s_top_place) [] [] (He.fAd K ("top_place", none)) fd ∧ Binds K fd [] [] := by
  obtain ⟨h, X, G, c⟩ := z.ex
  obtain ⟨fd, F⟩ := c.t.d.def_ 27 (d := d_top_place) rfl
  exact ⟨fd, F, FunD.bindsN F fun _ _ _ _ _ _ us hl => match us, hl with | [], _ => rfl⟩
theorem Cz.fn_inner_place (z : Cz w K mg) : ∃ fd, FunD K "inner_place" "inner_place" (defArgs s_inner_place) (defBody s_inner_place) (defScope s_inner_place) [] [] (He.fAd K ("inner_place", none)) fd ∧ Binds K fd ["place", "word"] [] := by
  obtain ⟨h, X, G, c⟩ := z.ex
  obtain ⟨fd, F⟩ := c.t.d.def_ 28 (d := d_inner_place) rfl
  exact ⟨fd, F, FunD.bindsN F fun _ _ _ _ _ _ us hl => match us, hl with | [_, _], _ => rfl⟩
theorem Cz.fn_fits (z : Cz w K mg) : ∃ fd, FunD K "fits" "fits" (defArgs s_fits) (defBody s_fits) (defScope s_fits) [] [] (He.fAd K ("fits", none)) fd ∧ Binds K fd ["statement", "place"] [] := by
  obtain ⟨h, X, G, c⟩ := z.ex
  obtain ⟨fd, F⟩ := c.t.d.def_ 29 (d := d_fits) rfl
  exact ⟨fd, F, FunD.bindsN F fun _ _ _ _ _ _ us hl => match us, hl with | [_, _], _ => rfl⟩
theorem Cz.fn__rows (z : Cz w K mg) : ∃ fd, FunD K "_rows" "_rows" (defArgs s__rows) (defBody s__rows) (defScope s__rows) [] [] (He.fAd K ("_rows", none)) fd ∧ Binds K fd ["block", "at", "place"] [] := by
  obtain ⟨h, X, G, c⟩ := z.ex
  obtain ⟨fd, F⟩ := c.t.d.def_ 30 (d := d__rows) rfl
  exact ⟨fd, F, FunD.bindsN F fun _ _ _ _ _ _ us hl => match us, hl with | [_, _, _], _ => rfl⟩
theorem Cz.fn_survey (z : Cz w K mg) : ∃ fd, FunD K "survey" "survey" (defArgs s_survey) (defBody s_survey) (defScope s_survey) [] [] (He.fAd K ("survey", none)) fd ∧ Binds K fd ["block"] [] := by
  obtain ⟨h, X, G, c⟩ := z.ex
  obtain ⟨fd, F⟩ := c.t.d.def_ 31 (d := d_survey) rfl
  exact ⟨fd, F, FunD.bindsN F fun _ _ _ _ _ _ us hl => match us, hl with | [_], _ => rfl⟩
theorem Cz.fn_Layout_init (z : Cz w K mg) : ∃ fd, FunD K "__init__" "Layout.__init__" (defArgs s_Layout_init) (defBody s_Layout_init) (defScope s_Layout_init) [] [] (He.fAd K ("Layout", some "__init__")) fd ∧ Binds K fd ["self", "block"] [] := by
  obtain ⟨h, X, G, c⟩ := z.ex
  obtain ⟨fd, F⟩ := c.t.d.def_ 32 (d := d_Layout_init) rfl
  exact ⟨fd, F, FunD.bindsN F fun _ _ _ _ _ _ us hl => match us, hl with | [_, _], _ => rfl⟩
theorem Cz.fn_Layout_keep (z : Cz w K mg) : ∃ fd, FunD K "_keep" "Layout._keep" (defArgs s_Layout_keep) (defBody s_Layout_keep) (defScope s_Layout_keep) [] [] (He.fAd K ("Layout", some "_keep")) fd ∧ Binds K fd ["self", "code", "parameters", "body"] [] := by
  obtain ⟨h, X, G, c⟩ := z.ex
  obtain ⟨fd, F⟩ := c.t.d.def_ 33 (d := d_Layout_keep) rfl
  exact ⟨fd, F, FunD.bindsN F fun _ _ _ _ _ _ us hl => match us, hl with | [_, _, _, _], _ => rfl⟩
theorem Cz.fn_Layout_code_around (z : Cz w K mg) : ∃ fd, FunD K "code_around" "Layout.code_around" (defArgs s_Layout_code_around) (defBody s_Layout_code_around) (defScope s_Layout_code_around) [] [] (He.fAd K ("Layout", some "code_around")) fd ∧ Binds K fd ["self", "path"] [] := by
  obtain ⟨h, X, G, c⟩ := z.ex
  obtain ⟨fd, F⟩ := c.t.d.def_ 34 (d := d_Layout_code_around) rfl
  exact ⟨fd, F, FunD.bindsN F fun _ _ _ _ _ _ us hl => match us, hl with | [_, _], _ => rfl⟩
theorem Cz.fn_Program_init (z : Cz w K mg) : ∃ fd, FunD K "__init__" "Program.__init__" (defArgs s_Program_init) (defBody s_Program_init) (defScope s_Program_init) [] [] (He.fAd K ("Program", some "__init__")) fd ∧ Binds K fd ["self", "block"] [] := by
  obtain ⟨h, X, G, c⟩ := z.ex
  obtain ⟨fd, F⟩ := c.t.d.def_ 35 (d := d_Program_init) rfl
  exact ⟨fd, F, FunD.bindsN F fun _ _ _ _ _ _ us hl => match us, hl with | [_, _], _ => rfl⟩
theorem Cz.fn_Program_block (z : Cz w K mg) : ∃ fd, FunD K "block" "Program.block" (defArgs s_Program_block) (defBody s_Program_block) (defScope s_Program_block) [] [] (He.fAd K ("Program", some "block")) fd ∧ Binds K fd ["self"] [] := by
  obtain ⟨h, X, G, c⟩ := z.ex
  obtain ⟨fd, F⟩ := c.t.d.def_ 36 (d := d_Program_block) rfl
  exact ⟨fd, F, FunD.bindsN F fun _ _ _ _ _ _ us hl => match us, hl with | [_], _ => rfl⟩
theorem Cz.fn_Program_getitem (z : Cz w K mg) : ∃ fd, FunD K "__getitem__" "Program.__getitem__" (defArgs s_Program_getitem) (defBody s_Program_getitem) (defScope s_Program_getitem) [] [] (He.fAd K ("Program", some "__getitem__")) fd ∧ Binds K fd ["self", "at"] [] := by
  obtain ⟨h, X, G, c⟩ := z.ex
  obtain ⟨fd, F⟩ := c.t.d.def_ 37 (d := d_Program_getitem) rfl
  exact ⟨fd, F, FunD.bindsN F fun _ _ _ _ _ _ us hl => match us, hl with | [_, _], _ => rfl⟩
theorem Cz.fn_Program_iter (z : Cz w K mg) : ∃ fd, FunD K "__iter__" "Program.__iter__" (defArgs s_Program_iter) (defBody s_Program_iter) (defScope s_Program_iter) [] [] (He.fAd K ("Program", some "__iter__")) fd ∧ Binds K fd ["self"] [] := by
  obtain ⟨h, X, G, c⟩ := z.ex
  obtain ⟨fd, F⟩ := c.t.d.def_ 38 (d := d_Program_iter) rfl
  exact ⟨fd, F, FunD.bindsN F fun _ _ _ _ _ _ us hl => match us, hl with | [_], _ => rfl⟩
theorem Cz.fn_Program_len (z : Cz w K mg) : ∃ fd, FunD K "__len__" "Program.__len__" (defArgs s_Program_len) (defBody s_Program_len) (defScope s_Program_len) [] [] (He.fAd K ("Program", some "__len__")) fd ∧ Binds K fd ["self"] [] := by
  obtain ⟨h, X, G, c⟩ := z.ex
  obtain ⟨fd, F⟩ := c.t.d.def_ 39 (d := d_Program_len) rfl
  exact ⟨fd, F, FunD.bindsN F fun _ _ _ _ _ _ us hl => match us, hl with | [_], _ => rfl⟩
theorem Cz.fn_Program_paths (z : Cz w K mg) : ∃ fd, FunD K "paths" "Program.paths" (defArgs s_Program_paths) (defBody s_Program_paths) (defScope s_Program_paths) [] [] (He.fAd K ("Program", some "paths")) fd ∧ Binds K fd ["self"] [] := by
  obtain ⟨h, X, G, c⟩ := z.ex
  obtain ⟨fd, F⟩ := c.t.d.def_ 40 (d := d_Program_paths) rfl
  exact ⟨fd, F, FunD.bindsN F fun _ _ _ _ _ _ us hl => match us, hl with | [_], _ => rfl⟩
theorem Cz.fn_Program_codes (z : Cz w K mg) : ∃ fd, FunD K "codes" "Program.codes" (defArgs s_Program_codes) (defBody s_Program_codes) (defScope s_Program_codes) [] [] (He.fAd K ("Program", some "codes")) fd ∧ Binds K fd ["self"] [] := by
  obtain ⟨h, X, G, c⟩ := z.ex
  obtain ⟨fd, F⟩ := c.t.d.def_ 41 (d := d_Program_codes) rfl
  exact ⟨fd, F, FunD.bindsN F fun _ _ _ _ _ _ us hl => match us, hl with | [_], _ => rfl⟩
theorem Cz.fn_Program_body (z : Cz w K mg) : ∃ fd, FunD K "body" "Program.body" (defArgs s_Program_body) (defBody s_Program_body) (defScope s_Program_body) [] [] (He.fAd K ("Program", some "body")) fd ∧ Binds K fd ["self", "code"] [] := by
  obtain ⟨h, X, G, c⟩ := z.ex
  obtain ⟨fd, F⟩ := c.t.d.def_ 42 (d := d_Program_body) rfl
  exact ⟨fd, F, FunD.bindsN F fun _ _ _ _ _ _ us hl => match us, hl with | [_, _], _ => rfl⟩
theorem Cz.fn_Program_eq (z : Cz w K mg) : ∃ fd, FunD K "__eq__" "Program.__eq__" (defArgs s_Program_eq) (defBody s_Program_eq) (defScope s_Program_eq) [] [] (He.fAd K ("Program", some "__eq__")) fd ∧ Binds K fd ["self", "other"] [] := by
  obtain ⟨h, X, G, c⟩ := z.ex
  obtain ⟨fd, F⟩ := c.t.d.def_ 43 (d := d_Program_eq) rfl
  exact ⟨fd, F, FunD.bindsN F fun _ _ _ _ _ _ us hl => match us, hl with | [_, _], _ => rfl⟩
theorem Cz.fn_is_path (z : Cz w K mg) : ∃ fd, FunD K "is_path" "is_path" (defArgs s_is_path) (defBody s_is_path) (defScope s_is_path) [] [] (He.fAd K ("is_path", none)) fd ∧ Binds K fd ["program", "thing"] [] := by
  obtain ⟨h, X, G, c⟩ := z.ex
  obtain ⟨fd, F⟩ := c.t.d.def_ 44 (d := d_is_path) rfl
  exact ⟨fd, F, FunD.bindsN F fun _ _ _ _ _ _ us hl => match us, hl with | [_, _], _ => rfl⟩
theorem Cz.fn_is_code (z : Cz w K mg) : ∃ fd, FunD K "is_code" "is_code" (defArgs s_is_code) (defBody s_is_code) (defScope s_is_code) [] [] (He.fAd K ("is_code", none)) fd ∧ Binds K fd ["program", "thing"] [] := by
  obtain ⟨h, X, G, c⟩ := z.ex
  obtain ⟨fd, F⟩ := c.t.d.def_ 45 (d := d_is_code) rfl
  exact ⟨fd, F, FunD.bindsN F fun _ _ _ _ _ _ us hl => match us, hl with | [_, _], _ => rfl⟩
theorem Cz.fn__law_source (z : Cz w K mg) : ∃ fd, FunD K "_law_source" "_law_source" (defArgs s__law_source) (defBody s__law_source) (defScope s__law_source) [] [] (He.fAd K ("_law_source", none)) fd ∧ Binds K fd ["_law_script", "_law_nodes", "_law_many"] [] := by
  obtain ⟨h, X, G, c⟩ := z.ex
  obtain ⟨fd, F⟩ := c.t.d.def_ 46 (d := d__law_source) rfl
  exact ⟨fd, F, FunD.bindsN F fun _ _ _ _ _ _ us hl => match us, hl with | [_, _, _], _ => rfl⟩
theorem Cz.fn__law_draw (z : Cz w K mg) : ∃ fd, FunD K "_law_draw" "_law_draw" (defArgs s__law_draw) (defBody s__law_draw) (defScope s__law_draw) [] [] (He.fAd K ("_law_draw", none)) fd ∧ Binds K fd ["_law_src", "_law_many"] [] := by
  obtain ⟨h, X, G, c⟩ := z.ex
  obtain ⟨fd, F⟩ := c.t.d.def_ 47 (d := d__law_draw) rfl
  exact ⟨fd, F, FunD.bindsN F fun _ _ _ _ _ _ us hl => match us, hl with | [_, _], _ => rfl⟩
theorem Cz.fn__law_words (z : Cz w K mg) : ∃ fd, FunD K "_law_words" "_law_words" (defArgs s__law_words) (defBody s__law_words) (defScope s__law_words) [] [] (He.fAd K ("_law_words", none)) fd ∧ Binds K fd [] [] := by
  obtain ⟨h, X, G, c⟩ := z.ex
  obtain ⟨fd, F⟩ := c.t.d.def_ 48 (d := d__law_words) rfl
  exact ⟨fd, F, FunD.bindsN F fun _ _ _ _ _ _ us hl => match us, hl with | [], _ => rfl⟩
theorem Cz.fn__law_name (z : Cz w K mg) : ∃ fd, FunD K "_law_name" "_law_name" (defArgs s__law_name) (defBody s__law_name) (defScope s__law_name) [] [] (He.fAd K ("_law_name", none)) fd ∧ Binds K fd ["_law_src"] [] := by
  obtain ⟨h, X, G, c⟩ := z.ex
  obtain ⟨fd, F⟩ := c.t.d.def_ 49 (d := d__law_name) rfl
  exact ⟨fd, F, FunD.bindsN F fun _ _ _ _ _ _ us hl => match us, hl with | [_], _ => rfl⟩
theorem Cz.fn__law_phrase (z : Cz w K mg) : ∃ fd, FunD K "_law_phrase" "_law_phrase" (defArgs s__law_phrase) (defBody s__law_phrase) (defScope s__law_phrase) [] [] (He.fAd K ("_law_phrase", none)) fd ∧ Binds K fd ["_law_src"] [] := by
  obtain ⟨h, X, G, c⟩ := z.ex
  obtain ⟨fd, F⟩ := c.t.d.def_ 50 (d := d__law_phrase) rfl
  exact ⟨fd, F, FunD.bindsN F fun _ _ _ _ _ _ us hl => match us, hl with | [_], _ => rfl⟩
theorem Cz.fn__law_leaf (z : Cz w K mg) : ∃ fd, FunD K "_law_leaf" "_law_leaf" (defArgs s__law_leaf) (defBody s__law_leaf) (defScope s__law_leaf) [] [] (He.fAd K ("_law_leaf", none)) fd ∧ Binds K fd ["_law_src", "_law_method"] [] := by
  obtain ⟨h, X, G, c⟩ := z.ex
  obtain ⟨fd, F⟩ := c.t.d.def_ 51 (d := d__law_leaf) rfl
  exact ⟨fd, F, FunD.bindsN F fun _ _ _ _ _ _ us hl => match us, hl with | [_, _], _ => rfl⟩
theorem Cz.fn__law_expression (z : Cz w K mg) : ∃ fd, FunD K "_law_expression" "_law_expression" (defArgs s__law_expression) (defBody s__law_expression) (defScope s__law_expression) [] [] (He.fAd K ("_law_expression", none)) fd ∧ Binds K fd ["_law_src", "_law_room", "_law_method"] [] := by
  obtain ⟨h, X, G, c⟩ := z.ex
  obtain ⟨fd, F⟩ := c.t.d.def_ 52 (d := d__law_expression) rfl
  exact ⟨fd, F, FunD.bindsN F fun _ _ _ _ _ _ us hl => match us, hl with | [_, _, _], _ => rfl⟩
theorem Cz.fn__law_params (z : Cz w K mg) : ∃ fd, FunD K "_law_params" "_law_params" (defArgs s__law_params) (defBody s__law_params) (defScope s__law_params) [] [] (He.fAd K ("_law_params", none)) fd ∧ Binds K fd ["_law_src", "_law_least"] [] := by
  obtain ⟨h, X, G, c⟩ := z.ex
  obtain ⟨fd, F⟩ := c.t.d.def_ 53 (d := d__law_params) rfl
  exact ⟨fd, F, FunD.bindsN F fun _ _ _ _ _ _ us hl => match us, hl with | [_, _], _ => rfl⟩
theorem Cz.fn__law_call (z : Cz w K mg) : ∃ fd, FunD K "_law_call" "_law_call" (defArgs s__law_call) (defBody s__law_call) (defScope s__law_call) [] [] (He.fAd K ("_law_call", none)) fd ∧ Binds K fd ["_law_src", "_law_kind"] [] := by
  obtain ⟨h, X, G, c⟩ := z.ex
  obtain ⟨fd, F⟩ := c.t.d.def_ 54 (d := d__law_call) rfl
  exact ⟨fd, F, FunD.bindsN F fun _ _ _ _ _ _ us hl => match us, hl with | [_, _], _ => rfl⟩
theorem Cz.fn__law_simple (z : Cz w K mg) : ∃ fd, FunD K "_law_simple" "_law_simple" (defArgs s__law_simple) (defBody s__law_simple) (defScope s__law_simple) [] [] (He.fAd K ("_law_simple", none)) fd ∧ Binds K fd ["_law_src", "_law_kind", "_law_within"] [] := by
  obtain ⟨h, X, G, c⟩ := z.ex
  obtain ⟨fd, F⟩ := c.t.d.def_ 55 (d := d__law_simple) rfl
  exact ⟨fd, F, FunD.bindsN F fun _ _ _ _ _ _ us hl => match us, hl with | [_, _, _], _ => rfl⟩
theorem Cz.fn__law_class (z : Cz w K mg) : ∃ fd, FunD K "_law_class" "_law_class" (defArgs s__law_class) (defBody s__law_class) (defScope s__law_class) [] [] (He.fAd K ("_law_class", none)) fd ∧ Binds K fd ["_law_src", "_law_depth", "_law_kind"] [] := by
  obtain ⟨h, X, G, c⟩ := z.ex
  obtain ⟨fd, F⟩ := c.t.d.def_ 56 (d := d__law_class) rfl
  exact ⟨fd, F, FunD.bindsN F fun _ _ _ _ _ _ us hl => match us, hl with | [_, _, _], _ => rfl⟩
theorem Cz.fn__law_try (z : Cz w K mg) : ∃ fd, FunD K "_law_try" "_law_try" (defArgs s__law_try) (defBody s__law_try) (defScope s__law_try) [] [] (He.fAd K ("_law_try", none)) fd ∧ Binds K fd ["_law_src", "_law_depth", "_law_kind", "_law_within"] [] := by
  obtain ⟨h, X, G, c⟩ := z.ex
  obtain ⟨fd, F⟩ := c.t.d.def_ 57 (d := d__law_try) rfl
  exact ⟨fd, F, FunD.bindsN F fun _ _ _ _ _ _ us hl => match us, hl with | [_, _, _, _], _ => rfl⟩
theorem Cz.fn__law_statement (z : Cz w K mg) : ∃ fd, FunD K "_law_statement" "_law_statement" (defArgs s__law_statement) (defBody s__law_statement) (defScope s__law_statement) [] [] (He.fAd K ("_law_statement", none)) fd ∧ Binds K fd ["_law_src", "_law_depth", "_law_kind", "_law_within"] [] := by
  obtain ⟨h, X, G, c⟩ := z.ex
  obtain ⟨fd, F⟩ := c.t.d.def_ 58 (d := d__law_statement) rfl
  exact ⟨fd, F, FunD.bindsN F fun _ _ _ _ _ _ us hl => match us, hl with | [_, _, _, _], _ => rfl⟩
theorem Cz.fn__law_block (z : Cz w K mg) : ∃ fd, FunD K "_law_block" "_law_block" (defArgs s__law_block) (defBody s__law_block) (defScope s__law_block) [] [] (He.fAd K ("_law_block", none)) fd ∧ Binds K fd ["_law_src", "_law_depth", "_law_kind", "_law_within"] [] := by
  obtain ⟨h, X, G, c⟩ := z.ex
  obtain ⟨fd, F⟩ := c.t.d.def_ 59 (d := d__law_block) rfl
  exact ⟨fd, F, FunD.bindsN F fun _ _ _ _ _ _ us hl => match us, hl with | [_, _, _, _], _ => rfl⟩
theorem Cz.fn__law_top (z : Cz w K mg) : ∃ fd, FunD K "_law_top" "_law_top" (defArgs s__law_top) (defBody s__law_top) (defScope s__law_top) [] [] (He.fAd K ("_law_top", none)) fd ∧ Binds K fd ["_law_script", "_law_nodes", "_law_many"] [] := by
  obtain ⟨h, X, G, c⟩ := z.ex
  obtain ⟨fd, F⟩ := c.t.d.def_ 60 (d := d__law_top) rfl
  exact ⟨fd, F, FunD.bindsN F fun _ _ _ _ _ _ us hl => match us, hl with | [_, _, _], _ => rfl⟩
theorem Cz.fn__law_inner (z : Cz w K mg) : ∃ fd, FunD K "_law_inner" "_law_inner" (defArgs s__law_inner) (defBody s__law_inner) (defScope s__law_inner) [] [] (He.fAd K ("_law_inner", none)) fd ∧ Binds K fd ["_law_statement_here"] [] := by
  obtain ⟨h, X, G, c⟩ := z.ex
  obtain ⟨fd, F⟩ := c.t.d.def_ 61 (d := d__law_inner) rfl
  exact ⟨fd, F, FunD.bindsN F fun _ _ _ _ _ _ us hl => match us, hl with | [_], _ => rfl⟩
theorem Cz.fn__law_rows (z : Cz w K mg) : ∃ fd, FunD K "_law_rows" "_law_rows" (defArgs s__law_rows) (defBody s__law_rows) (defScope s__law_rows) [] [] (He.fAd K ("_law_rows", none)) fd ∧ Binds K fd ["_law_block_here", "_law_place"] [] := by
  obtain ⟨h, X, G, c⟩ := z.ex
  obtain ⟨fd, F⟩ := c.t.d.def_ 62 (d := d__law_rows) rfl
  exact ⟨fd, F, FunD.bindsN F fun _ _ _ _ _ _ us hl => match us, hl with | [_, _], _ => rfl⟩
theorem Cz.fn__law_same (z : Cz w K mg) : ∃ fd, FunD K "_law_same" "_law_same" (defArgs s__law_same) (defBody s__law_same) (defScope s__law_same) [] [] (He.fAd K ("_law_same", none)) fd ∧ Binds K fd ["_law_actual", "_law_due"] [] := by
  obtain ⟨h, X, G, c⟩ := z.ex
  obtain ⟨fd, F⟩ := c.t.d.def_ 63 (d := d__law_same) rfl
  exact ⟨fd, F, FunD.bindsN F fun _ _ _ _ _ _ us hl => match us, hl with | [_, _], _ => rfl⟩
theorem Cz.fn__law_are_paths (z : Cz w K mg) : ∃ fd, FunD K "_law_are_paths" "_law_are_paths" (defArgs s__law_are_paths) (defBody s__law_are_paths) (defScope s__law_are_paths) [] [] (He.fAd K ("_law_are_paths", none)) fd ∧ Binds K fd ["_law_paths"] [] := by
  obtain ⟨h, X, G, c⟩ := z.ex
  obtain ⟨fd, F⟩ := c.t.d.def_ 64 (d := d__law_are_paths) rfl
  exact ⟨fd, F, FunD.bindsN F fun _ _ _ _ _ _ us hl => match us, hl with | [_], _ => rfl⟩
theorem Cz.fn__law_of_block (z : Cz w K mg) : ∃ fd, FunD K "_law_of_block" "_law_of_block" (defArgs s__law_of_block) (defBody s__law_of_block) (defScope s__law_of_block) [] [] (He.fAd K ("_law_of_block", none)) fd ∧ Binds K fd ["_law_place", "_law_many"] [] := by
  obtain ⟨h, X, G, c⟩ := z.ex
  obtain ⟨fd, F⟩ := c.t.d.def_ 65 (d := d__law_of_block) rfl
  exact ⟨fd, F, FunD.bindsN F fun _ _ _ _ _ _ us hl => match us, hl with | [_, _], _ => rfl⟩
theorem Cz.fn_law (z : Cz w K mg) : ∃ fd, FunD K "law" "law" (defArgs s_law) (defBody s_law) (defScope s_law) [] [] (He.fAd K ("law", none)) fd ∧ Binds K fd ["_law_script"] [] := by
  obtain ⟨h, X, G, c⟩ := z.ex
  obtain ⟨fd, F⟩ := c.t.d.def_ 66 (d := d_law) rfl
  exact ⟨fd, F, FunD.bindsN F fun _ _ _ _ _ _ us hl => match us, hl with | [_], _ => rfl⟩
end
end K0
/-! ## K0D -/
set_option Elab.async false
set_option linter.all false
set_option maxRecDepth 100000
set_option maxHeartbeats 4000000
namespace K0
open PySem PySem.Spec PyProof.Rows L2 Evl RZ KB
section
variable {P : Program} {w : World} {K : PySem.W.Frag} {mg : Str → Option Value} {base : Heap}
mutual
/-- sizes within reason -/
def szB : Th → Bool
  | .str s => decide (s.length ≤ 50000)
  | .lst ts => decide (ts.length ≤ 1000) && szL ts
  | .tup ts => decide (ts.length ≤ 1000) && szL ts
  | _ => true
def szL : List Th → Bool
  | [] => true
  | t :: ts => szB t && szL ts
end
theorem szL_get : ∀ {ts : List Th} {i : Nat} {t : Th}, szL ts = true → ts[i]? = some t → szB t = true
  | [], _, _, _, h => by simp at h
  | t :: ts, 0, u, h, e => by
    simp at e
    subst e
    exact (Bool.and_eq_true_iff.mp (show (szB t && szL ts) = true from h)).1
  | t :: ts, i + 1, u, h, e => szL_get (i := i) (Bool.and_eq_true_iff.mp (show (szB t && szL ts) = true from h)).2 (by simpa using e)
abbrev Sz (t : Th) : Prop := szB t = true
def isIntT (t : Th) : Bool := isInt t && !isBool t
theorem f_is_integer (z : Cz w K mg) : Cl P w K mg base 1 "is_integer" (P1 K (fun _ => True) isIntT) := by
  refine cal_of z.fn_is_integer z.glo_is_integer c_is_integer (fun vs H Q E h => ?_) (fun cdv A outer s H vs Q E hr h => ?_)
  · obtain ⟨_, ⟨x, t, rfl, _⟩, _⟩ := h
    rfl
  · obtain ⟨_, ⟨x, t, rfl, r, _, rfl⟩, k⟩ := h
    refine ⟨_, (pss_one (ps_ret (pe_and (pe_callB call_isi (by rfl) z.free_isinstance boot_isinstance (pa_cons (pv 0) (pa_cons (pe_bty (T := "int") z.free_int (by decide +kernel)) pa_nil))) (pe_one (pe_not (pe_callB call_isi (by rfl) z.free_isinstance boot_isinstance (pa_cons (pv 0) (pa_cons (pe_bty (T := "bool") z.free_bool (by decide +kernel)) pa_nil)))))))), ?_⟩
    refine s_ret (ev_andV (ev_isi tys_int (ev_var rfl) r) fun _ => ev_notV (ev_isi tys_bool (ev_var rfl) r)) fun H1 e => ?_
    rw [isB_int, isB_bool]
    exact k H1 e
def nameB (s : Str) : Bool := decide (1 ≤ s.length) && decide (s.length ≤ 8) && ((s.cps.toList.all fun c => decide (c ∈ lettersL)) && !inV (.str s) (v_WORDS.map V.str))
def isNameT : Th → Bool
  | .str s => nameB s
  | _ => false
theorem flat_words : (v_WORDS.map V.str).all flatV = true := by decide +kernel
theorem f_is_name (z : Cz w K mg) : Cl P w K mg base 1 "is_name" (P1 K Sz isNameT) := by
  refine cal_of z.fn_is_name z.glo_is_name c_is_name (fun vs H Q E h => ?_) (fun cdv A outer s H vs Q E hr h => ?_)
  · obtain ⟨_, ⟨x, t, rfl, _⟩, _⟩ := h
    rfl
  · obtain ⟨_, ⟨x, t, rfl, r, sz, rfl⟩, k⟩ := h
    refine ⟨_, (pss_cons (ps_if (PW.pt (pw_or (pt_not (pt_val (pe_callB call_isi (by rfl) z.free_isinstance boot_isinstance (pa_cons (pv 0) (pa_cons (pe_bty (T := "str") z.free_str (by decide +kernel)) pa_nil))))) (pw_or1 (pt_not (pt_chain op_le op_le pe_int (pe_callB call_len_str (by rfl) z.free_len PySem.boot_len (pa_cons (pv 0) pa_nil)) pe_int))))) (pss_one (ps_ret pe_bl)) pss_nil)
      (pss_one (ps_ret (pe_and (pe_callB (cr_all rfl) (by rfl) z.free_all (by decide +kernel) (pa_cons (pe_lc (own := [("sign", 1)]) rfl c_is_name.nd (pi_str (pv 0)) (blkOk_by (N := N_is_name) (sc := defScope s_is_name) (by decide +kernel)) (fun _ _ _ _ _ => (pg_name (i := 1) c_is_name.nd rfl (.inl rfl))) (fun _ _ _ _ _ => pts_nil) (fun _ _ _ _ _ => (pe_cmpR op_in_sign (pv 1) (pe_gs z.str_LETTERS) (by rfl)))) pa_nil)) (pe_one (pe_cmpR op_notIn_seq (pv 0) (pe_gr z.glo_WORDS) (by rfl))))))), ?_⟩
    have e1 : isB "str" t = isStr t := isB_str t
    cases t with
    | str s =>
      cases r
      have sz : s.length ≤ 50000 := of_decide_eq_true sz
      refine q_when (et_or (et_not (et_B (ev_isi tys_str (ev_var rfl) (.str s)))) fun _ => et_not (et_test (ev_chain ev_c (ev_lenS (ev_var rfl) (sz_of (Nat.le_trans sz (by decide)))) ev_c))) (fun hb H1 e => s_ret ev_c fun H2 e2 => ?_) (fun hb H1 e => ?_)
      · rw [e1] at hb
        have h2 : isNameT (.str s) = false := by
          show nameB s = false
          unfold nameB
          simp only [isStr, Bool.not_true, Bool.false_or, Bool.not_eq_true'] at hb
          have h3 : (decide (1 ≤ s.length) && decide (s.length ≤ 8)) = false := by
            rw [← hb, show decide (1 ≤ s.length) = decide ((1 : Int) ≤ s.length) from decide_eq_decide.mpr (by omega), show decide (s.length ≤ 8) = decide ((s.length : Int) ≤ 8) from decide_eq_decide.mpr (by omega)]
          rw [h3]
          rfl
        rw [← h2]
        exact k H2 (e.trans e2)
      · refine s_ret (ev_andV (ev_all (bs := s.cps.toList.map fun c => decide (c ∈ lettersL)) (el_compS (ev_var rfl) (by simp) sz (fun x => rfl) fun i c y H2 e2 hc hy => ?_)) fun _ => ev_op (ev_var rfl) ev_c (rv_niT (z.tup_WORDS _) rfl flat_words)) fun H2 e2 => ?_
        · have hy' : y = .bl (decide (c ∈ lettersL)) := by
            rw [List.getElem?_map, List.getElem?_map] at hy
            have : s.cps.toList[i]? = some c := by simpa using hc
            rw [this] at hy
            exact (Option.some.inj hy).symm
          rw [hy']
          exact ev_op (ev_var rfl) ev_c rv_inSg
        · have h2 : isNameT (.str s) = (List.all (s.cps.toList.map fun c => decide (c ∈ lettersL)) id && !inV (.str s) (v_WORDS.map V.str)) := by
            show nameB s = _
            unfold nameB
            rw [e1] at hb
            simp only [isStr, Bool.not_true, Bool.false_or, Bool.not_eq_false', Bool.and_eq_true, decide_eq_true_eq] at hb
            have h3 : (decide (1 ≤ s.length) && decide (s.length ≤ 8)) = true := by
              simp only [Bool.and_eq_true, decide_eq_true_eq]
              omega
            rw [h3, Bool.true_and, List.all_map]
            rfl
          rw [← h2]
          exact k H2 (e.trans e2)
    | _ =>
      refine q_when (b := true) (et_is (et_or (b := true) (et_not (et_B (ev_isi tys_str (ev_var rfl) r))) fun hh => by rw [e1] at hh; cases hh) (by rw [e1]; rfl)) (fun hb H1 e => s_ret ev_c fun H2 e2 => k H2 (e.trans e2)) (fun hb => nomatch hb)

def phraseB (s : Str) : Bool := decide (s.length ≤ 20) && s.cps.toList.all fun c => decide (c ∈ signsL)
def isPhraseT : Th → Bool
  | .str s => phraseB s
  | _ => false
theorem f_is_phrase (z : Cz w K mg) : Cl P w K mg base 1 "is_phrase" (P1 K Sz isPhraseT) := by
  refine cal_of z.fn_is_phrase z.glo_is_phrase c_is_phrase (fun vs H Q E h => ?_) (fun cdv A outer s H vs Q E hr h => ?_)
  · obtain ⟨_, ⟨x, t, rfl, _⟩, _⟩ := h
    rfl
  · obtain ⟨_, ⟨x, t, rfl, r, sz, rfl⟩, k⟩ := h
    refine ⟨_, (pss_one (ps_ret (pe_and (pe_callB call_isi (by rfl) z.free_isinstance boot_isinstance (pa_cons (pv 0) (pa_cons (pe_bty (T := "str") z.free_str (by decide +kernel)) pa_nil))) (pe_and (pe_cmpR op_le (pe_callB call_len_str (by rfl) z.free_len PySem.boot_len (pa_cons (pv 0) pa_nil)) pe_int (nomark _)) (pe_one (pe_callB (cr_all rfl) (by rfl) z.free_all (by decide +kernel) (pa_cons (pe_lc (own := [("sign", 1)]) rfl K0.c_is_phrase.nd (pi_str (pv 0)) (blkOk_by (N := N_is_phrase) (sc := defScope s_is_phrase) (by decide +kernel)) (fun _ _ _ _ _ => (pg_name (i := 1) K0.c_is_phrase.nd rfl (.inl rfl))) (fun _ _ _ _ _ => pts_nil) (fun _ _ _ _ _ => (pe_cmpR op_in_sign (pv 1) (pe_gs z.str_PHRASE_SIGNS) (by rfl)))) pa_nil))))))), ?_⟩
    have e1 : isB "str" t = isStr t := isB_str t
    cases t with
    | str s =>
      cases r
      have sz : s.length ≤ 50000 := of_decide_eq_true sz
      refine s_ret (ev_andV (ev_isi tys_str (ev_var rfl) (.str s)) fun _ => ev_andV (ev_op (ev_lenS (ev_var rfl) (sz_of (Nat.le_trans sz (by decide)))) ev_c rv_I0) fun _ => ev_all (bs := s.cps.toList.map fun c => decide (c ∈ signsL)) (el_compS (ev_var rfl) (by simp) sz (fun x => rfl) fun i c y H2 e2 hc hy => ?_)) fun H2 e2 => ?_
      · have hy' : y = .bl (decide (c ∈ signsL)) := by
          rw [List.getElem?_map, List.getElem?_map] at hy
          have : s.cps.toList[i]? = some c := by simpa using hc
          rw [this] at hy
          exact (Option.some.inj hy).symm
        rw [hy']
        exact ev_op (ev_var rfl) ev_c rv_inSg
      · have h2 : isPhraseT (.str s) = (isB "str" (.str s) && (decide ((s.length : Int) ≤ 20) && List.all (s.cps.toList.map fun c => decide (c ∈ signsL)) id)) := by
          rw [e1, List.all_map]
          show phraseB s = (true && _)
          unfold phraseB
          rw [Bool.true_and, show decide (s.length ≤ 20) = decide ((s.length : Int) ≤ 20) from decide_eq_decide.mpr (by omega)]
          rfl
        rw [← h2]
        exact k H2 e2
    | _ =>
      refine s_ret (ev_is (ev_andV (b := false) (ev_isi tys_str (ev_var rfl) r) fun hh => by rw [e1] at hh; cases hh) (by rw [e1]; rfl)) fun H2 e2 => k H2 e2
def isNumT : Th → Bool
  | .int i => decide (0 ≤ i) && decide (i ≤ 999)
  | _ => false
theorem f_is_written_number (z : Cz w K mg) : Cl P w K mg base 2 "is_written_number" (P1 K Sz isNumT) := by
  have c_is_integer := f_is_integer (P := P) (base := base) z
  refine cal_of z.fn_is_written_number z.glo_is_written_number K0.c_is_written_number (fun vs H Q E h => ?_) (fun cdv A outer s H vs Q E hr h => ?_)
  · obtain ⟨_, ⟨x, t, rfl, _⟩, _⟩ := h
    rfl
  · obtain ⟨_, ⟨x, t, rfl, r, sz, rfl⟩, k⟩ := h
    refine ⟨_, (pss_one (ps_ret (pe_and (pe_c c_is_integer hr (by first | decide | omega) (by rfl) (pa_cons (pv 0) pa_nil)) (pe_one (pe_chain op_le op_le pe_int (pv 0) pe_int))))), ?_⟩
    cases t with
    | int i =>
      cases r
      exact s_ret (ev_andV (ev_p1 (t := .int i) (ev_var rfl) (.int i) trivial) fun _ => ev_chain ev_c (ev_var rfl) ev_c) fun H2 e2 => k H2 e2
    | _ => exact s_ret (ev_andV (b := false) (ev_p1 (ev_var rfl) r trivial) fun hh => nomatch hh) fun H2 e2 => k H2 e2
def isPerhapsT : Th → Bool
  | .non => true
  | t => isNameT t
theorem f_is_perhaps_name (z : Cz w K mg) : Cl P w K mg base 2 "is_perhaps_name" (P1 K Sz isPerhapsT) := by
  have c_is_name := f_is_name (P := P) (base := base) z
  refine cal_of z.fn_is_perhaps_name z.glo_is_perhaps_name K0.c_is_perhaps_name (fun vs H Q E h => ?_) (fun cdv A outer s H vs Q E hr h => ?_)
  · obtain ⟨_, ⟨x, t, rfl, _⟩, _⟩ := h
    rfl
  · obtain ⟨_, ⟨x, t, rfl, r, sz, rfl⟩, k⟩ := h
    refine ⟨_, (pss_one (ps_ret (pe_or (pe_cmpR op_isN (pv 0) pe_non (nomark _)) (pe_one (pe_c c_is_name hr (by first | decide | omega) (by rfl) (pa_cons (pv 0) pa_nil)))))), ?_⟩
    refine s_ret (ev_orV (ev_op (ev_var rfl) ev_c rv_isN) fun _ => ev_p1 (ev_var rfl) r sz) fun H2 e2 => ?_
    have h2 : isPerhapsT t = (decide (x = .non) || isNameT t) := by
      cases r <;> rfl
    rw [← h2]
    exact k H2 e2
theorem f_is_block (z : Cz w K mg) : Cl P w K mg base 1 "is_block" (P1 K (fun _ => True) isLst) := by
  refine cal_of z.fn_is_block z.glo_is_block c_is_block (fun vs H Q E h => ?_) (fun cdv A outer s H vs Q E hr h => ?_)
  · obtain ⟨_, ⟨x, t, rfl, _⟩, _⟩ := h
    rfl
  · obtain ⟨_, ⟨x, t, rfl, r, _, rfl⟩, k⟩ := h
    refine ⟨_, (pss_one (ps_ret (pe_callB call_isi (by rfl) z.free_isinstance boot_isinstance (pa_cons (pv 0) (pa_cons (pe_bty (T := "list") z.free_list (by decide +kernel)) pa_nil))))), ?_⟩
    refine s_ret (ev_isi tys_list (ev_var rfl) r) fun H1 e => ?_
    rw [isB_list]
    exact k H1 e
/-- no wish -/
def flat : Th → Bool := fun _ => true
def isSignT (t : Th) : Bool := v_SIGNS.any fun z => strIs z t
def isHowT (t : Th) : Bool := v_HOWS.any fun z => strIs z t
theorem f_is_sign (z : Cz w K mg) : Cl P w K mg base 1 "is_sign" (P1 K (fun t => flat t = true) isSignT) := by
  refine cal_of z.fn_is_sign z.glo_is_sign c_is_sign (fun vs H Q E h => ?_) (fun cdv A outer s H vs Q E hr h => ?_)
  · obtain ⟨_, ⟨x, t, rfl, _⟩, _⟩ := h
    rfl
  · obtain ⟨_, ⟨x, t, rfl, r, d, rfl⟩, k⟩ := h
    refine ⟨_, (pss_one (ps_ret (pe_cmpR (show OpR _ _ (rInT K) from op_inT (hu_of hr)) (pv 0) (pe_gr z.glo_SIGNS) (by rfl)))), ?_⟩
    exact s_ret (ev_inTt (ev_var rfl) r ev_c (z.tup_SIGNS _)) fun H1 e => k H1 e
theorem f_is_how (z : Cz w K mg) : Cl P w K mg base 1 "is_how" (P1 K (fun t => flat t = true) isHowT) := by
  refine cal_of z.fn_is_how z.glo_is_how c_is_how (fun vs H Q E h => ?_) (fun cdv A outer s H vs Q E hr h => ?_)
  · obtain ⟨_, ⟨x, t, rfl, _⟩, _⟩ := h
    rfl
  · obtain ⟨_, ⟨x, t, rfl, r, d, rfl⟩, k⟩ := h
    refine ⟨_, (pss_one (ps_ret (pe_cmpR (show OpR _ _ (rInT K) from op_inT (hu_of hr)) (pv 0) (pe_gr z.glo_HOWS) (by rfl)))), ?_⟩
    exact s_ret (ev_inTt (ev_var rfl) r ev_c (z.tup_HOWS _)) fun H1 e => k H1 e
end
end K0
/-! ## K0E -/
set_option Elab.async false
set_option linter.all false
set_option maxRecDepth 100000
set_option maxHeartbeats 4000000
namespace K0
open PySem PySem.Spec PyProof.Rows L2 Evl RZ KB
def fw : Th → Str
  | .tup (.str s :: _) => s
  | _ => ""
def spFw (K : PySem.W.Frag) : Sp := Pu fun vs H v => ∃ x t, vs = [x] ∧ Rep K H x t ∧ v = .str (fw t)
def strOf : Th → Str
  | .str s => s
  | _ => ""
theorem names_are {K : PySem.W.Frag} {H : Hp} : ∀ {vs : List V} {ts : List Th}, Reps K H vs ts → ts.all isNameT = true → vs = (ts.map strOf).map V.str
  | _, _, .nil, _ => rfl
  | _, _, .cons (t := t) h r, a => by
    rw [List.all_cons, Bool.and_eq_true] at a
    rw [names_are r a.2]
    cases h with
    | str s => rfl
    | _ => cases a.1
def paramB : Th → Bool
  | .lst ts => decide (ts.length ≤ 3) && (ts.all isNameT && decide (dc (ts.map strOf) = ts.length))
  | _ => false
def methodB : Th → Bool
  | .tup [n, .lst ps, b] => isNameT n && (paramB (.lst ps) && (decide (0 < ps.length) && isLst b))
  | _ => false
def headOf : Th → Str
  | .tup (.str s :: _) => s
  | _ => ""
def methodsB : Th → Bool
  | .lst ts => decide (ts.length ≤ 4) && (ts.all methodB && decide (dc (ts.map headOf) = ts.length))
  | _ => false
section
variable {P : Program} {w : World} {K : PySem.W.Frag} {mg : Str → Option Value} {base : Heap}
theorem f_first_word (z : Cz w K mg) : Cl P w K mg base 1 "first_word" (spFw K) := by
  refine cal_of z.fn_first_word z.glo_first_word c_first_word (fun vs H Q E h => ?_) (fun cdv A outer s H vs Q E hr h => ?_)
  · obtain ⟨_, ⟨x, t, rfl, _⟩, _⟩ := h
    rfl
  · obtain ⟨_, ⟨x, t, rfl, r, rfl⟩, k⟩ := h
    refine ⟨_, (pss_cons (ps_if (PW.pt (pw_and (pt_val (pe_callB call_isi (by rfl) z.free_isinstance boot_isinstance (pa_cons (pv 0) (pa_cons (pe_bty (T := "tuple") z.free_tuple (by decide +kernel)) pa_nil)))) (pw_and (pt_cmpR op_gt (pe_callB call_len_seq (by rfl) z.free_len PySem.boot_len (pa_cons (pv 0) pa_nil)) pe_int (nomark _)) (pw_and1 (pt_val (pe_callB call_isi (by rfl) z.free_isinstance boot_isinstance (pa_cons (pe_ix (show IxR _ (rIxT K) from ix_tup) (pv 0) pe_int (fun _ _ => rfl)) (pa_cons (pe_bty (T := "str") z.free_str (by decide +kernel)) pa_nil)))))))) (pss_one (ps_ret (pe_ix (show IxR _ (rIxT K) from ix_tup) (pv 0) pe_int (fun _ _ => rfl)))) pss_nil)
      (pss_one (ps_ret pe_str))), ?_⟩
    have e1 : isB "tuple" t = isTup t := isB_tuple t
    cases t with
    | tup ts =>
      cases r with
      | tup h rs =>
        rename_i a vs
        have hl := rs.length
        cases rs with
        | nil =>
          refine q_when (b := false) (et_is (et_and (et_B (ev_isi tys_tuple (ev_var rfl) (.tup h .nil))) fun _ => et_and (b := false) (et_test (ev_op (ev_lenT (ev_var rfl) h) ev_c rv_I0)) fun hh => nomatch hh) (by rw [e1]; rfl)) (fun hb => nomatch hb) fun _ H1 e => s_ret ev_c fun H2 e2 => k H2 (e.trans e2)
        | cons h0 rs =>
          rename_i v0 vs t0 ts
          have q2 : isB "str" t0 = isStr t0 := isB_str t0
          refine q_when (b := isStr t0) (et_is (et_and (et_B (ev_isi tys_tuple (ev_var rfl) (.tup h (.cons h0 rs)))) fun _ => et_and (et_test (ev_op (ev_lenT (ev_var rfl) h) ev_c rv_I0)) fun _ => et_B (ev_isi tys_str (ev_ixT (i := 0) (ev_var rfl) h rfl) h0)) ?_) (fun hb H1 e => ?_) (fun hb H1 e => ?_)
          · rw [e1, q2]
            simp [isTup]
          · refine s_ret (ev_ixT (i := 0) (ev_var rfl) (ex_t e h) rfl) fun H2 e2 => ?_
            cases h0 with
            | str s => exact k H2 (e.trans e2)
            | _ => cases hb
          · refine s_ret ev_c fun H2 e2 => ?_
            have q := k H2 (e.trans e2)
            cases h0 with
            | str s => cases hb
            | _ => exact q
    | _ => exact q_when (b := false) (et_is (et_and (b := false) (et_B (ev_isi tys_tuple (ev_var rfl) r)) fun hh => by rw [e1] at hh; cases hh) (by rw [e1]; rfl)) (fun hb => nomatch hb) fun _ H1 e => s_ret ev_c fun H2 e2 => k H2 (e.trans e2)
theorem f_is_parameters (z : Cz w K mg) : Cl P w K mg base 2 "is_parameters" (P1 K Sz paramB) := by
  have c_is_name := f_is_name (P := P) (base := base) z
  refine cal_of z.fn_is_parameters z.glo_is_parameters K0.c_is_parameters (fun vs H Q E h => ?_) (fun cdv A outer s H vs Q E hr h => ?_)
  · obtain ⟨_, ⟨x, t, rfl, _⟩, _⟩ := h
    rfl
  · obtain ⟨_, ⟨x, t, rfl, r, sz, rfl⟩, k⟩ := h
    refine ⟨_, (pss_cons (ps_if (PW.pt (pw_or (pt_not (pt_val (pe_callB call_isi (by rfl) z.free_isinstance boot_isinstance (pa_cons (pv 0) (pa_cons (pe_bty (T := "list") z.free_list (by decide +kernel)) pa_nil))))) (pw_or1 (pt_cmpR op_gt (pe_callB call_len_seq (by rfl) z.free_len PySem.boot_len (pa_cons (pv 0) pa_nil)) (pe_gi z.int_MOST_ARGUMENTS) (nomark _))))) (pss_one (ps_ret pe_bl)) pss_nil)
      (pss_one (ps_ret (pe_and (pe_callB (cr_all rfl) (by rfl) z.free_all (by decide +kernel) (pa_cons (pe_lc (own := [("part", 1)]) rfl K0.c_is_parameters.nd (pi_list (pv 0)) (blkOk_by (N := N_is_parameters) (sc := defScope s_is_parameters) (by decide +kernel)) (fun _ _ _ _ _ => (pg_name (i := 1) K0.c_is_parameters.nd rfl (.inl rfl))) (fun _ _ _ _ _ => pts_nil) (fun _ _ _ _ _ => (pe_c c_is_name hr (by first | decide | omega) (by rfl) (pa_cons (pv 1) pa_nil)))) pa_nil)) (pe_one (pe_cmpR op_eq (KB.pe_lenSet rfl (by rfl) z.free_len (by rfl) z.free_set (pv 0)) (pe_callB call_len_seq (by rfl) z.free_len PySem.boot_len (pa_cons (pv 0) pa_nil)) (nomark _))))))), ?_⟩
    have e1 : isB "list" t = isLst t := isB_list t
    cases t with
    | lst ts =>
      cases r with
      | lst hL rs =>
        have h := sq_of (K := K) hL
        rename_i a vs
        have hl := rs.length
        have sz : ts.length ≤ 1000 ∧ szL ts = true := by
          have q := Bool.and_eq_true_iff.mp (show (decide (ts.length ≤ 1000) && szL ts) = true from sz)
          exact ⟨of_decide_eq_true q.1, q.2⟩
        refine q_when (b := decide (3 < ts.length)) (et_is (et_or (et_not (et_B (ev_isi tys_list (ev_var rfl) (.lst hL rs)))) fun _ => et_test (ev_op (ev_lenL (ev_var rfl) h) ev_c rv_I0)) ?_) (fun hb H1 e => s_ret ev_c fun H2 e2 => ?_) (fun hb H1 e => ?_)
        · rw [e1, hl]
          simp only [isLst, Bool.not_true, Bool.false_or]
          exact decide_eq_decide.mpr (by omega)
        · have q := k H2 (e.trans e2)
          have h2 : paramB (.lst ts) = false := by
            show (decide (ts.length ≤ 3) && _) = false
            rw [decide_eq_false (by have := of_decide_eq_true hb; omega), Bool.false_and]
          rw [h2] at q
          exact q
        · have l3 : ts.length ≤ 3 := by have := of_decide_eq_false hb; omega
          have h2 : paramB (.lst ts) = ((ts.map isNameT).all id && decide (dc (ts.map strOf) = ts.length)) := by
            show (decide (ts.length ≤ 3) && _) = _
            rw [decide_eq_true l3, Bool.true_and, List.all_map]
            rfl
          rw [h2] at k
          refine s_ret (ev_andV (ev_all (bs := ts.map isNameT) (el_compL (ev_var rfl) (ex_l e h) (by simp [hl]) (by omega) (fun x => rfl) fun i x y H2 e2 hx hy => ?_)) fun ha => ?_) fun H2 e2 => k H2 (e.trans e2)
          · obtain ⟨t, ht, rt⟩ := (rs.mono (e.trans e2)).get hx
            have hy' : y = .bl (isNameT t) := by
              rw [List.getElem?_map, List.getElem?_map, ht] at hy
              exact (Option.some.inj hy).symm
            rw [hy']
            exact ev_p1 (ev_var rfl) rt (szL_get sz.2 ht)
          · have nm : ts.all isNameT = true := by
              rw [List.all_map] at ha
              exact ha
            have ev := names_are rs nm
            subst ev
            refine ev_is (ev_op (fun H3 e3 Q' q' => ev_var rfl H3 e3 _ fun H4 e4 => ⟨a, ts.map strOf, rfl, ex_l ((e.trans e3).trans e4) h, by rw [List.length_map]; have : scanBound = 4096 := rfl; omega, q' H4 e4⟩) (ev_lenL (ev_var rfl) (ex_l e h)) rv_iEq) ?_
            rw [List.length_map, List.length_map]
            congr 1
            exact decide_eq_decide.mpr (by omega)
    | _ =>
      refine q_when (b := true) (et_is (et_or (b := true) (et_not (et_B (ev_isi tys_list (ev_var rfl) r))) fun hh => by rw [e1] at hh; cases hh) (by rw [e1]; rfl)) (fun hb H1 e => s_ret ev_c fun H2 e2 => k H2 (e.trans e2)) (fun hb => nomatch hb)

theorem f_is_method (z : Cz w K mg) : Cl P w K mg base 3 "is_method" (P1 K Sz methodB) := by
  have c_is_name := f_is_name (P := P) (base := base) z
  have c_is_parameters := f_is_parameters (P := P) (base := base) z
  have c_is_block := f_is_block (P := P) (base := base) z
  refine cal_of z.fn_is_method z.glo_is_method K0.c_is_method (fun vs H Q E h => ?_) (fun cdv A outer s H vs Q E hr h => ?_)
  · obtain ⟨_, ⟨x, t, rfl, _⟩, _⟩ := h
    rfl
  · obtain ⟨_, ⟨x, t, rfl, r, sz, rfl⟩, k⟩ := h
    refine ⟨_, (pss_cons (ps_if (PW.pt (pw_or (pt_not (pt_val (pe_callB call_isi (by rfl) z.free_isinstance boot_isinstance (pa_cons (pv 0) (pa_cons (pe_bty (T := "tuple") z.free_tuple (by decide +kernel)) pa_nil))))) (pw_or1 (pt_cmpR op_ne (pe_callB call_len_seq (by rfl) z.free_len PySem.boot_len (pa_cons (pv 0) pa_nil)) pe_int (nomark _))))) (pss_one (ps_ret pe_bl)) pss_nil)
      (pss_one (ps_ret (pe_and (pe_c c_is_name hr (by first | decide | omega) (by rfl) (pa_cons (pe_ix (show IxR _ (rIxT K) from ix_tup) (pv 0) pe_int (fun _ _ => rfl)) pa_nil)) (pe_and (pe_c c_is_parameters hr (by first | decide | omega) (by rfl) (pa_cons (pe_ix (show IxR _ (rIxT K) from ix_tup) (pv 0) pe_int (fun _ _ => rfl)) pa_nil)) (pe_and (pe_cmpR op_gt (pe_callB call_len_seq (by rfl) z.free_len PySem.boot_len (pa_cons (pe_ix (show IxR _ (rIxT K) from ix_tup) (pv 0) pe_int (fun _ _ => rfl)) pa_nil)) pe_int (nomark _)) (pe_one (pe_c c_is_block hr (by first | decide | omega) (by rfl) (pa_cons (pe_ix (show IxR _ (rIxT K) from ix_tup) (pv 0) pe_int (fun _ _ => rfl)) pa_nil))))))))), ?_⟩
    have e1 : isB "tuple" t = isTup t := isB_tuple t
    cases t with
    | tup ts =>
      cases r with
      | tup h rs =>
        rename_i a vs
        have hl := rs.length
        have sz := Bool.and_eq_true_iff.mp (show (decide (ts.length ≤ 1000) && szL ts) = true from sz)
        refine q_when (b := !decide (ts.length = 3)) (et_is (et_or (et_not (et_B (ev_isi tys_tuple (ev_var rfl) (.tup h rs)))) fun _ => et_test (ev_op (ev_lenT (ev_var rfl) h) ev_c rv_iNe)) ?_) (fun hb H1 e => s_ret ev_c fun H2 e2 => ?_) (fun hb H1 e => ?_)
        · rw [e1, hl]
          simp only [isTup, Bool.not_true, Bool.false_or]
          congr 1
          exact decide_eq_decide.mpr (by omega)
        · have q := k H2 (e.trans e2)
          have n3 : ts.length ≠ 3 := by
            intro q
            rw [decide_eq_true q] at hb
            cases hb
          have h2 : methodB (.tup ts) = false := by
            unfold methodB
            split
            · rename_i q
              injection q with q
              subst q
              exact absurd rfl n3
            · rfl
          rw [h2] at q
          exact q
        · have n3 : ts.length = 3 := by
            simpa using hb
          obtain ⟨t0, t1, t2, rfl⟩ : ∃ t0 t1 t2, ts = [t0, t1, t2] := by
            match ts, n3 with
            | [t0, t1, t2], _ => exact ⟨t0, t1, t2, rfl⟩
          obtain ⟨v0, v1, v2, rfl⟩ : ∃ v0 v1 v2, vs = [v0, v1, v2] := by
            match vs, hl with
            | [v0, v1, v2], _ => exact ⟨v0, v1, v2, rfl⟩
          cases rs with | cons r0 rs => cases rs with | cons r1 rs => cases rs with | cons r2 rs =>
          have s0 : Sz t0 := szL_get (i := 0) sz.2 rfl
          have s1 : Sz t1 := szL_get (i := 1) sz.2 rfl
          have h2 : methodB (.tup [t0, t1, t2]) = (isNameT t0 && (paramB t1 && (decide (0 < (match t1 with | .lst ps => ps.length | _ => 0)) && isLst t2))) := by
            cases t1 with
            | lst ps => rfl
            | _ => simp [methodB, paramB]
          rw [h2] at k
          have h' := ex_t e h
          refine s_ret (ev_andV (ev_p1 (ev_ixT (i := 0) (ev_var rfl) h' rfl) (r0.mono e) s0) fun _ => ev_andV (ev_p1 (ev_ixT (i := 1) (ev_var rfl) h' rfl) (r1.mono e) s1) fun hp => ev_andV ?_ fun _ => ev_p1 (ev_ixT (i := 2) (ev_var rfl) h' rfl) (r2.mono e) trivial) fun H2 e2 => k H2 (e.trans e2)
          cases r1 with
          | lst hL1 rs1 =>
            have h1 := sq_of (K := K) hL1
            refine ev_is (ev_op (ev_lenL (ev_ixT (i := 1) (ev_var rfl) h' rfl) (ex_l e h1)) ev_c rv_I0) ?_
            congr 1
            rw [rs1.length]
            dsimp only
            exact decide_eq_decide.mpr (by omega)
          | _ => cases hp
    | _ =>
      refine q_when (b := true) (et_is (et_or (b := true) (et_not (et_B (ev_isi tys_tuple (ev_var rfl) r))) fun hh => by rw [e1] at hh; cases hh) (by rw [e1]; rfl)) (fun hb H1 e => s_ret ev_c fun H2 e2 => k H2 (e.trans e2)) (fun hb => nomatch hb)
theorem heads_are {H : Hp} {vs : List V} {ts : List Th} (rs : Reps K H vs ts) (a : ts.all methodB = true) (i : Nat) (v : V) (s : Str) (hv : vs[i]? = some v) (hs : (ts.map headOf)[i]? = some s) : ∃ (a : Addr) (us : List V), v = V.ref a ∧ SqT K H a us ∧ us[0]? = some (V.str s) := by
    obtain ⟨t, ht, r⟩ := rs.get hv
    have hm : methodB t = true := List.all_eq_true.mp a t (List.mem_of_getElem? ht)
    rw [List.getElem?_map, ht] at hs
    have hs : headOf t = s := Option.some.inj hs
    subst hs
    unfold methodB at hm
    split at hm
    · rename_i n ps b
      cases r with
      | tup h rs =>
        cases rs with
        | cons r0 rs =>
          have hn := (Bool.and_eq_true_iff.mp hm).1
          cases r0 with
          | str s => exact ⟨_, _, rfl, h, rfl⟩
          | _ => cases hn
    · cases hm
theorem f_is_methods (z : Cz w K mg) : Cl P w K mg base 4 "is_methods" (P1 K Sz methodsB) := by
  have c_is_method := f_is_method (P := P) (base := base) z
  refine cal_of z.fn_is_methods z.glo_is_methods K0.c_is_methods (fun vs H Q E h => ?_) (fun cdv A outer s H vs Q E hr h => ?_)
  · obtain ⟨_, ⟨x, t, rfl, _⟩, _⟩ := h
    rfl
  · obtain ⟨_, ⟨x, t, rfl, r, sz, rfl⟩, k⟩ := h
    refine ⟨_, (pss_cons (ps_if (PW.pt (pw_or (pt_not (pt_val (pe_callB call_isi (by rfl) z.free_isinstance boot_isinstance (pa_cons (pv 0) (pa_cons (pe_bty (T := "list") z.free_list (by decide +kernel)) pa_nil))))) (pw_or1 (pt_cmpR op_gt (pe_callB call_len_seq (by rfl) z.free_len PySem.boot_len (pa_cons (pv 0) pa_nil)) (pe_gi z.int_MOST_METHODS) (nomark _))))) (pss_one (ps_ret pe_bl)) pss_nil)
      (pss_one (ps_ret (pe_and (pe_callB (cr_all rfl) (by rfl) z.free_all (by decide +kernel) (pa_cons (pe_lc (own := [("part", 1)]) rfl K0.c_is_methods.nd (pi_list (pv 0)) (blkOk_by (N := N_is_methods) (sc := defScope s_is_methods) (by decide +kernel)) (fun _ _ _ _ _ => (pg_name (i := 1) K0.c_is_methods.nd rfl (.inl rfl))) (fun _ _ _ _ _ => pts_nil) (fun _ _ _ _ _ => (pe_c c_is_method hr (by first | decide | omega) (by rfl) (pa_cons (pv 1) pa_nil)))) pa_nil)) (pe_one (pe_cmpR op_eq (pe_callB call_lenK (by rfl) z.free_len PySem.boot_len (pa_cons (pe_sk (own := [("part", 1)]) rfl K0.c_is_methods.nd (pi_list (pv 0)) (blkOk_by (N := N_is_methods) (sc := defScope s_is_methods) (by decide +kernel)) (fun _ _ _ _ _ => (pg_name (i := 1) K0.c_is_methods.nd rfl (.inl rfl))) (fun _ _ _ _ _ => pts_nil) (fun _ _ _ _ _ => (pe_ix (show IxR _ (rIxT K) from ix_tup) (pv 1) pe_int (fun _ _ => rfl)))) pa_nil)) (pe_callB call_len_seq (by rfl) z.free_len PySem.boot_len (pa_cons (pv 0) pa_nil)) (nomark _))))))), ?_⟩
    have e1 : isB "list" t = isLst t := isB_list t
    cases t with
    | lst ts =>
      cases r with
      | lst hL rs =>
        have h := sq_of (K := K) hL
        rename_i a vs
        have hl := rs.length
        have sz := Bool.and_eq_true_iff.mp (show (decide (ts.length ≤ 1000) && szL ts) = true from sz)
        refine q_when (b := decide (4 < ts.length)) (et_is (et_or (et_not (et_B (ev_isi tys_list (ev_var rfl) (.lst hL rs)))) fun _ => et_test (ev_op (ev_lenL (ev_var rfl) h) ev_c rv_I0)) ?_) (fun hb H1 e => s_ret ev_c fun H2 e2 => ?_) (fun hb H1 e => ?_)
        · rw [e1, hl]
          simp only [isLst, Bool.not_true, Bool.false_or]
          exact decide_eq_decide.mpr (by omega)
        · have q := k H2 (e.trans e2)
          have h2 : methodsB (.lst ts) = false := by
            show (decide (ts.length ≤ 4) && _) = false
            rw [decide_eq_false (by have := of_decide_eq_true hb; omega), Bool.false_and]
          rw [h2] at q
          exact q
        · have l3 : ts.length ≤ 4 := by have := of_decide_eq_false hb; omega
          have h2 : methodsB (.lst ts) = ((ts.map methodB).all id && decide (dc (ts.map headOf) = ts.length)) := by
            show (decide (ts.length ≤ 4) && _) = _
            rw [decide_eq_true l3, Bool.true_and, List.all_map]
            rfl
          rw [h2] at k
          refine s_ret (ev_andV (ev_all (bs := ts.map methodB) (el_compL (ev_var rfl) (ex_l e h) (by simp [hl]) (by omega) (fun x => rfl) fun i x y H2 e2 hx hy => ?_)) fun ha => ?_) fun H2 e2 => k H2 (e.trans e2)
          · obtain ⟨t, ht, rt⟩ := (rs.mono (e.trans e2)).get hx
            have hy' : y = .bl (methodB t) := by
              rw [List.getElem?_map, List.getElem?_map, ht] at hy
              exact (Option.some.inj hy).symm
            rw [hy']
            exact ev_p1 (ev_var rfl) rt (szL_get sz.2 ht)
          · have nm : ts.all methodB = true := by
              rw [List.all_map] at ha
              exact ha
            refine ev_is (ev_op (ev_lenSk (ys := ts.map headOf) (ev_var rfl) (ex_l e h) (by simp [hl]) (by omega) (fun x => rfl) fun i x y H2 e2 hx hy => ?_) (ev_lenL (ev_var rfl) (ex_l e h)) rv_iEq) ?_
            · obtain ⟨a', us, rfl, hu, h0⟩ := heads_are (rs.mono (e.trans e2)) nm i x y hx hy
              exact ev_ixT (i := 0) (ev_var rfl) hu h0
            · rw [hl]
              congr 1
              exact decide_eq_decide.mpr (by omega)
    | _ =>
      refine q_when (b := true) (et_is (et_or (b := true) (et_not (et_B (ev_isi tys_list (ev_var rfl) r))) fun hh => by rw [e1] at hh; cases hh) (by rw [e1]; rfl)) (fun hb H1 e => s_ret ev_c fun H2 e2 => k H2 (e.trans e2)) (fun hb => nomatch hb)
end
end K0
/-! ## K0G -/
set_option Elab.async false
set_option linter.all false
set_option maxRecDepth 100000
set_option maxHeartbeats 4000000
namespace K0
open PySem PySem.Spec PyProof.Rows L2 Evl RZ KB
/-! the call of a local that holds a def of the module -/
section
variable {X : Cx} {k j i : Nat} {x y : Str} {sp : Sp} {p pos : Pos} {e : Expr} {es : List Expr} {t : TA}
theorem pe_cl {f : Addr} (c : Cl X.prog X.w X.K X.mg X.base k y sp) (hf : X.mg y = some (.ref f)) (hr : Room j X.A) (hk : k ≤ j) (hN : X.N[i]? = some x) (hv : Vis X.env.scope x) (ha : PA X (e :: es) t)
    (hdb : (x == ("__debug__" : Str)) = false := by decide) (hcd : (x == ("__classdict__" : Str)) = false := by decide) (he : starEach (e :: es) X.env = (false, eval e X.env) :: starEach es X.env := by rfl)
    (hpl : (backTo pos (starEach es X.env)).any (·.1) = false := by rfl) : PE X (.Call (.Name x p) (e :: es) [] pos) (tCallL i f sp [] E0 t) := by
  obtain ⟨g, fd, ps, F, hm, kp, b⟩ := c.ex
  have q := hf.symm.trans hm
  cases q
  exact pe_callL F (hr.mono hk) hN hv kp b .nil pass0 ha hdb hcd he hpl
end
/-! the mirror of expressions -/
def plainF : List (Str × (Th → Bool)) := [("name", isNameT), ("phrase", isPhraseT), ("number", isNumT), ("sign", isSignT), ("how", isHowT), ("perhaps a name", isPerhapsT), ("block", isLst), ("parameters", paramB), ("methods", methodsB)]
def plainB (kind : Str) (t : Th) : Bool := ((plainF.lookup kind).getD fun _ => false) t
def rowB (E : Th → Bool) : Th → Bool
  | .tup ts => decide (ts.length = 2) && ts.all E
  | _ => false
def rowsB (E : Th → Bool) : Th → Bool
  | .lst ts => decide (ts.length ≤ 4) && ts.all (rowB E)
  | _ => false
def exprsB (E : Th → Bool) (most : Nat) : Th → Bool
  | .lst ts => decide (ts.length ≤ most) && ts.all E
  | _ => false
def isNonT : Th → Bool
  | .non => true
  | _ => false
def partB (E : Th → Bool) (kind : Str) (t : Th) : Bool :=
  if kind = "expression" then E t
  else if kind = "perhaps an expression" then isNonT t || E t
  else if kind = "items" then exprsB E 4 t
  else if kind = "arguments" then exprsB E 3 t
  else if kind = "rows" then rowsB E t
  else plainB kind t
def partsB (E : Th → Bool) : Option (List Str) → Th → Bool
  | some ks, .tup ts => decide (ts.length = ks.length + 1) && (ks.zip (ts.drop 1)).all fun p => partB E p.1 p.2
  | _, _ => false
def exprB : Nat → Th → Bool
  | 0, _ => false
  | n + 1, t => partsB (exprB n) (t_EXPRESSIONS.lookup (fw t)) t
/-! what we speak of: sizes within reason, words that stand flat -/
def headOk : List Th → Bool
  | .str w :: x :: _ => !(decide (w = "op") || decide (w = "call")) || flat x
  | _ => true
mutual
def flB : Th → Bool
  | .lst ts => flL ts
  | .tup ts => headOk ts && flL ts
  | _ => true
def flL : List Th → Bool
  | [] => true
  | t :: ts => flB t && flL ts
end
theorem flL_get : ∀ {ts : List Th} {i : Nat} {t : Th}, flL ts = true → ts[i]? = some t → flB t = true
  | [], _, _, _, h => by simp at h
  | t :: ts, 0, u, h, e => by
    simp at e
    subst e
    exact (Bool.and_eq_true_iff.mp (show (flB t && flL ts) = true from h)).1
  | t :: ts, i + 1, u, h, e => flL_get (i := i) (Bool.and_eq_true_iff.mp (show (flB t && flL ts) = true from h)).2 (by simpa using e)
structure Adm (t : Th) : Prop where
  sz : szB t = true
  fl : flB t = true
theorem Adm.lst {ts : List Th} (h : Adm (.lst ts)) : ts.length ≤ 1000 ∧ ∀ (i : Nat) (t : Th), ts[i]? = some t → Adm t := by
  have q := Bool.and_eq_true_iff.mp (show (decide (ts.length ≤ 1000) && szL ts) = true from h.sz)
  exact ⟨of_decide_eq_true q.1, fun i t e => ⟨szL_get q.2 e, flL_get (show flL ts = true from h.fl) e⟩⟩
theorem Adm.tup {ts : List Th} (h : Adm (.tup ts)) : ts.length ≤ 1000 ∧ headOk ts = true ∧ ∀ (i : Nat) (t : Th), ts[i]? = some t → Adm t := by
  have q := Bool.and_eq_true_iff.mp (show (decide (ts.length ≤ 1000) && szL ts) = true from h.sz)
  have q2 := Bool.and_eq_true_iff.mp (show (headOk ts && flL ts) = true from h.fl)
  exact ⟨of_decide_eq_true q.1, q2.1, fun i t e => ⟨szL_get q.2 e, flL_get q2.2 e⟩⟩
def PAdm (kind : Str) (t : Th) : Prop := Adm t ∧ (kind = "sign" ∨ kind = "how" → flat t = true)
/-- the depth that goes with so much fuel -/
def dp (n : Nat) : Int := 6 - (n : Int)
def spE (K : PySem.W.Frag) (n : Nat) (f : Th → Bool) : Sp := Pu fun vs H v => ∃ x t, vs = [x, .int (dp n)] ∧ Rep K H x t ∧ Adm t ∧ v = .bl (f t)
def spEs (K : PySem.W.Frag) (n : Nat) (E : Th → Bool) : Sp := Pu fun vs H v => ∃ x t m, vs = [x, .int (m : Nat), .int (dp n)] ∧ Rep K H x t ∧ Adm t ∧ v = .bl (exprsB E m t)
def kindsOk : List Str := ["expression", "perhaps an expression", "items", "arguments", "rows", "name", "phrase", "number", "sign", "how", "perhaps a name", "block", "parameters", "methods"]
def spPart (K : PySem.W.Frag) (n : Nat) (E : Th → Bool) : Sp := Pu fun vs H v => ∃ kind x t, vs = [.str kind, x, .int (dp n)] ∧ kind ∈ kindsOk ∧ Rep K H x t ∧ PAdm kind t ∧ v = .bl (partB E kind t)
/-- the kinds as a value -/
def KV (K : PySem.W.Frag) (H : Hp) : V → Option (List Str) → Prop
  | v, none => v = .non
  | v, some ks => ∃ a, v = .ref a ∧ SqT K H a (ks.map V.str)
def spParts (K : PySem.W.Frag) (n : Nat) (E : Th → Bool) : Sp := Pu fun vs H v => ∃ x t kv ks, vs = [x, kv, .int (dp n)] ∧ Rep K H x t ∧ Adm t ∧ KV K H kv ks ∧ (∀ l, ks = some l → l.length ≤ 100 ∧ (∀ k ∈ l, k ∈ kindsOk) ∧ ∃ ts, t = .tup ts ∧ ∀ p ∈ l.zip (ts.drop 1), PAdm p.1 p.2) ∧ v = .bl (partsB E ks t)
section
variable {P : Program} {w : World} {K : PySem.W.Frag} {mg : Str → Option Value} {base : Heap} {σ : L2.St} {H : Hp} {ta tb tc : TE} {x : V} {X0 : XK}
theorem ev_spE {n : Nat} {f : Th → Bool} {t : Th} (h : Ev ta σ H x) (h2 : Ev tb σ H (.int (dp n))) (r : Rep K H x t) (d : Adm t) : Ev (tCall (spE K n f) [] X0 (tCons ta (tCons tb tNil))) σ H (.bl (f t)) :=
  ev_pu (ea_cons h (ea_cons h2 ea_nil)) fun H1 e => ⟨x, t, rfl, r.mono e, d, rfl⟩
theorem f_is_expressions (z : Cz w K mg) (n : Nat) (lv : Nat) (E : Th → Bool) (c_is_expression : Cl P w K mg base lv "is_expression" (spE K n E)) : Cl P w K mg base (lv + 1) "is_expressions" (spEs K n E) := by
  refine cal_of z.fn_is_expressions z.glo_is_expressions K0.c_is_expressions (fun vs H Q E h => ?_) (fun cdv A outer s H vs Q _ hr h => ?_)
  · obtain ⟨_, ⟨x, t, m, rfl, _⟩, _⟩ := h
    rfl
  · obtain ⟨_, ⟨x, t, m, rfl, r, sz, rfl⟩, k⟩ := h
    refine ⟨_, (pss_cons (ps_if (PW.pt (pw_or (pt_not (pt_val (pe_callB call_isi (by rfl) z.free_isinstance boot_isinstance (pa_cons (pv 0) (pa_cons (pe_bty (T := "list") z.free_list (by decide +kernel)) pa_nil))))) (pw_or1 (pt_cmpR op_gt (pe_callB call_len_seq (by rfl) z.free_len PySem.boot_len (pa_cons (pv 0) pa_nil)) (pv 1) (nomark _))))) (pss_one (ps_ret pe_bl)) pss_nil)
      (pss_one (ps_ret (pe_callB (cr_all rfl) (by rfl) z.free_all (by decide +kernel) (pa_cons (pe_lc (own := [("part", 3)]) rfl K0.c_is_expressions.nd (pi_list (pv 0)) (blkOk_by (N := N_is_expressions) (sc := defScope s_is_expressions) (by decide +kernel)) (fun _ _ _ _ _ => (pg_name (i := 3) K0.c_is_expressions.nd rfl (.inl rfl))) (fun _ _ _ _ _ => pts_nil) (fun _ _ _ _ _ => (pe_c c_is_expression hr (by first | decide | omega) (by rfl) (pa_cons (pv 3) (pa_cons (pv 2) pa_nil))))) pa_nil))))), ?_⟩
    have e1 : isB "list" t = isLst t := isB_list t
    cases t with
    | lst ts =>
      cases r with
      | lst hL rs =>
        have h := sq_of (K := K) hL
        rename_i a vs
        have hl := rs.length
        refine q_when (b := decide (m < ts.length)) (et_is (et_or (et_not (et_B (ev_isi tys_list (ev_var rfl) (.lst hL rs)))) fun _ => et_test (ev_op (ev_lenL (ev_var rfl) h) (ev_var rfl) rv_I0)) ?_) (fun hb H1 e => s_ret ev_c fun H2 e2 => ?_) (fun hb H1 e => ?_)
        · rw [e1, hl]
          simp only [isLst, Bool.not_true, Bool.false_or]
          exact decide_eq_decide.mpr (by omega)
        · have q := k H2 (e.trans e2)
          have h2 : exprsB E m (.lst ts) = false := by
            show (decide (ts.length ≤ m) && _) = false
            rw [decide_eq_false (by have := of_decide_eq_true hb; omega), Bool.false_and]
          rw [h2] at q
          exact q
        · have h2 : exprsB E m (.lst ts) = (ts.map E).all id := by
            show (decide (ts.length ≤ m) && _) = _
            rw [decide_eq_true (by have := of_decide_eq_false hb; omega), Bool.true_and, List.all_map]
            rfl
          rw [h2] at k
          refine s_ret (ev_all (bs := ts.map E) (el_compL (ev_var rfl) (ex_l e h) (by simp [hl]) (by have := sz.lst.1; omega) (fun x => rfl) fun i x y H2 e2 hx hy => ?_)) fun H2 e2 => k H2 (e.trans e2)
          obtain ⟨t, ht, rt⟩ := (rs.mono (e.trans e2)).get hx
          have hy' : y = .bl (E t) := by
            rw [List.getElem?_map, List.getElem?_map, ht] at hy
            exact (Option.some.inj hy).symm
          rw [hy']
          exact ev_spE (ev_var rfl) (ev_var rfl) rt (sz.lst.2 i t ht)
    | _ => refine q_when (b := true) (et_is (et_or (b := true) (et_not (et_B (ev_isi tys_list (ev_var rfl) r))) fun hh => by rw [e1] at hh; cases hh) (by rw [e1]; rfl)) (fun hb H1 e => s_ret ev_c fun H2 e2 => k H2 (e.trans e2)) (fun hb => nomatch hb)
theorem f_is_row (z : Cz w K mg) (n : Nat) (lv : Nat) (E : Th → Bool) (c_is_expression : Cl P w K mg base lv "is_expression" (spE K n E)) : Cl P w K mg base (lv + 1) "is_row" (spE K n (rowB E)) := by
  refine cal_of z.fn_is_row z.glo_is_row K0.c_is_row (fun vs H Q E h => ?_) (fun cdv A outer s H vs Q _ hr h => ?_)
  · obtain ⟨_, ⟨x, t, rfl, _⟩, _⟩ := h
    rfl
  · obtain ⟨_, ⟨x, t, rfl, r, sz, rfl⟩, k⟩ := h
    refine ⟨_, (pss_one (ps_ret (pe_and (pe_callB call_isi (by rfl) z.free_isinstance boot_isinstance (pa_cons (pv 0) (pa_cons (pe_bty (T := "tuple") z.free_tuple (by decide +kernel)) pa_nil))) (pe_and (pe_cmpR op_eq (pe_callB call_len_seq (by rfl) z.free_len PySem.boot_len (pa_cons (pv 0) pa_nil)) pe_int (nomark _)) (pe_one (pe_callB (cr_all rfl) (by rfl) z.free_all (by decide +kernel) (pa_cons (pe_lc (own := [("part", 2)]) rfl K0.c_is_row.nd (pi_tup (pv 0)) (blkOk_by (N := N_is_row) (sc := defScope s_is_row) (by decide +kernel)) (fun _ _ _ _ _ => (pg_name (i := 2) K0.c_is_row.nd rfl (.inl rfl))) (fun _ _ _ _ _ => pts_nil) (fun _ _ _ _ _ => (pe_c c_is_expression hr (by first | decide | omega) (by rfl) (pa_cons (pv 2) (pa_cons (pv 1) pa_nil))))) pa_nil))))))), ?_⟩
    have e1 : isB "tuple" t = isTup t := isB_tuple t
    cases t with
    | tup ts =>
      cases r with
      | tup h rs =>
        rename_i a vs
        have hl := rs.length
        have h2 : rowB E (.tup ts) = (isB "tuple" (.tup ts) && (decide ((vs.length : Int) = 2) && (ts.map E).all id)) := by
          rw [e1, hl, List.all_map]
          show (decide (ts.length = 2) && ts.all E) = (true && (decide ((ts.length : Int) = 2) && _))
          rw [Bool.true_and, show decide (ts.length = 2) = decide ((ts.length : Int) = 2) from decide_eq_decide.mpr (by omega)]
          rfl
        rw [h2] at k
        refine s_ret (ev_andV (ev_isi tys_tuple (ev_var rfl) (.tup h rs)) fun _ => ev_andV (ev_op (ev_lenT (ev_var rfl) h) ev_c rv_iEq) fun _ => ev_all (bs := ts.map E) (el_compT (ev_var rfl) h (by simp [hl]) (by have := sz.tup.1; omega) (fun x => rfl) fun i x y H2 e2 hx hy => ?_)) fun H2 e2 => k H2 e2
        obtain ⟨t, ht, rt⟩ := (rs.mono e2).get hx
        have hy' : y = .bl (E t) := by
          rw [List.getElem?_map, List.getElem?_map, ht] at hy
          exact (Option.some.inj hy).symm
        rw [hy']
        exact ev_spE (ev_var rfl) (ev_var rfl) rt (sz.tup.2.2 i t ht)
    | _ => exact s_ret (ev_is (ev_andV (b := false) (ev_isi tys_tuple (ev_var rfl) r) fun hh => by rw [e1] at hh; cases hh) (by rw [e1]; rfl)) fun H2 e2 => k H2 e2
theorem f_is_rows (z : Cz w K mg) (n : Nat) (lv : Nat) (E : Th → Bool) (c_is_row : Cl P w K mg base lv "is_row" (spE K n (rowB E))) : Cl P w K mg base (lv + 1) "is_rows" (spE K n (rowsB E)) := by
  refine cal_of z.fn_is_rows z.glo_is_rows K0.c_is_rows (fun vs H Q E h => ?_) (fun cdv A outer s H vs Q _ hr h => ?_)
  · obtain ⟨_, ⟨x, t, rfl, _⟩, _⟩ := h
    rfl
  · obtain ⟨_, ⟨x, t, rfl, r, sz, rfl⟩, k⟩ := h
    refine ⟨_, (pss_one (ps_ret (pe_and (pe_callB call_isi (by rfl) z.free_isinstance boot_isinstance (pa_cons (pv 0) (pa_cons (pe_bty (T := "list") z.free_list (by decide +kernel)) pa_nil))) (pe_and (pe_cmpR op_le (pe_callB call_len_seq (by rfl) z.free_len PySem.boot_len (pa_cons (pv 0) pa_nil)) (pe_gi z.int_MOST_ITEMS) (nomark _)) (pe_one (pe_callB (cr_all rfl) (by rfl) z.free_all (by decide +kernel) (pa_cons (pe_lc (own := [("part", 2)]) rfl K0.c_is_rows.nd (pi_list (pv 0)) (blkOk_by (N := N_is_rows) (sc := defScope s_is_rows) (by decide +kernel)) (fun _ _ _ _ _ => (pg_name (i := 2) K0.c_is_rows.nd rfl (.inl rfl))) (fun _ _ _ _ _ => pts_nil) (fun _ _ _ _ _ => (pe_c c_is_row hr (by first | decide | omega) (by rfl) (pa_cons (pv 2) (pa_cons (pv 1) pa_nil))))) pa_nil))))))), ?_⟩
    have e1 : isB "list" t = isLst t := isB_list t
    cases t with
    | lst ts =>
      cases r with
      | lst hL rs =>
        have h := sq_of (K := K) hL
        rename_i a vs
        have hl := rs.length
        have h2 : rowsB E (.lst ts) = (isB "list" (.lst ts) && (decide ((vs.length : Int) ≤ 4) && (ts.map (rowB E)).all id)) := by
          rw [e1, hl, List.all_map]
          show (decide (ts.length ≤ 4) && ts.all (rowB E)) = (true && (decide ((ts.length : Int) ≤ 4) && _))
          rw [Bool.true_and, show decide (ts.length ≤ 4) = decide ((ts.length : Int) ≤ 4) from decide_eq_decide.mpr (by omega)]
          rfl
        rw [h2] at k
        refine s_ret (ev_andV (ev_isi tys_list (ev_var rfl) (.lst hL rs)) fun _ => ev_andV (ev_op (ev_lenL (ev_var rfl) h) ev_c rv_I0) fun _ => ev_all (bs := ts.map (rowB E)) (el_compL (ev_var rfl) h (by simp [hl]) (by have := sz.lst.1; omega) (fun x => rfl) fun i x y H2 e2 hx hy => ?_)) fun H2 e2 => k H2 e2
        obtain ⟨t, ht, rt⟩ := (rs.mono e2).get hx
        have hy' : y = .bl (rowB E t) := by
          rw [List.getElem?_map, List.getElem?_map, ht] at hy
          exact (Option.some.inj hy).symm
        rw [hy']
        exact ev_spE (ev_var rfl) (ev_var rfl) rt (sz.lst.2 i t ht)
    | _ => exact s_ret (ev_is (ev_andV (b := false) (ev_isi tys_list (ev_var rfl) r) fun hh => by rw [e1] at hh; cases hh) (by rw [e1]; rfl)) fun H2 e2 => k H2 e2
end
end K0
/-! ## K0H -/
set_option Elab.async false
set_option linter.all false
set_option maxRecDepth 100000
set_option maxHeartbeats 4000000
namespace K0
open PySem PySem.Spec PyProof.Rows L2 Evl RZ KB
section
variable {P : Program} {w : World} {K : PySem.W.Frag} {mg : Str → Option Value} {base : Heap} {σ : L2.St} {H : Hp} {ta tb tc td te : TE} {x : V} {X0 : XK}
theorem look_kix {d : Addr} {es : Array DictEntry} {n : Nat} (D : KDict K w d es n) {kvs : List (Str × V)} {z : Str} {v : V} (hl : ∃ r, PySem.W.nsIn K d z = some r ∧ Fnd r (kvs.lookup z)) (hv : kvs.lookup z = some v) (h1 : Ev ta σ H (.ref d)) (h2 : Ev tb σ H (.str z)) :
    Ev (tOp (rIxD K w) ta tb) σ H v := ev_op h1 h2 fun H1 e Q q => by
  obtain ⟨r, hr, hf⟩ := hl
  rw [hv] at hf
  obtain ⟨u, rfl, ru⟩ := hf
  exact ⟨d, z, v, rfl, rfl, ⟨es, n, u, D.at_, D.lit, hr, ru⟩, q H1 (Ex.refl H1)⟩
theorem ev_callL {i : Nat} {f : Addr} {D : Th → Prop} {g : Th → Bool} {t : Th} (hs : σ[i]? = some (some (.ref f))) (h : Ev ta σ H x) (r : Rep K H x t) (d : D t) : Ev (tCallL i f (P1 K D g) [] X0 (tCons ta tNil)) σ H (.bl (g t)) := fun H1 e Q q =>
  ⟨hs, ev_p1 (E := X0) h r d H1 e Q q⟩
theorem ev_spEs {n m : Nat} {E : Th → Bool} {t : Th} (h : Ev ta σ H x) (h2 : Ev tb σ H (.int (m : Nat))) (h3 : Ev tc σ H (.int (dp n))) (r : Rep K H x t) (d : Adm t) : Ev (tCall (spEs K n E) [] X0 (tCons ta (tCons tb (tCons tc tNil)))) σ H (.bl (exprsB E m t)) :=
  ev_pu (ea_cons h (ea_cons h2 (ea_cons h3 ea_nil))) fun H1 e => ⟨x, t, m, rfl, r.mono e, d, rfl⟩
theorem not_sEq {s t : Str} (h : s ≠ t) : RV rEq (.str s) (.str t) H (.bl false) := by
  have q := rv_sEq (H := H) (s := s) (t := t)
  rwa [decide_eq_false h] at q
theorem yes_sEq {s : Str} : RV rEq (.str s) (.str s) H (.bl true) := by
  have q := rv_sEq (H := H) (s := s) (t := s)
  rwa [decide_eq_true rfl] at q
theorem isNon_v {t : Th} (r : Rep K H x t) : decide (x = .non) = isNonT t := by
  cases r <;> rfl
def special : List Str := ["expression", "perhaps an expression", "items", "arguments", "rows"]
theorem f_is_part (z : Cz w K mg) (n : Nat) (lv : Nat) (hlv : 4 ≤ lv) (E : Th → Bool) (c1 : Cl P w K mg base lv "is_expression" (spE K n E)) : Cl P w K mg base (lv + 3) "is_part" (spPart K n E) := by
  have c_is_expression : Cl P w K mg base (lv + 2) "is_expression" (spE K n E) := c1.up (by omega)
  have c_is_expressions := f_is_expressions z n lv E c1
  have c_is_rows := f_is_rows z n (lv + 1) E (f_is_row z n lv E c1)
  obtain ⟨es, en, DP⟩ := z.dict_PLAIN_PARTS
  refine cal_of z.fn_is_part z.glo_is_part K0.c_is_part (fun vs H Q E h => ?_) (fun cdv A outer s H vs Q _ hr h => ?_)
  · obtain ⟨_, ⟨kind, x, t, rfl, _⟩, _⟩ := h
    rfl
  · obtain ⟨_, ⟨kind, x, t, rfl, hk, r, d, rfl⟩, k⟩ := h
    -- which def the table holds
    obtain ⟨y, f, D, g, cy, hf, hp⟩ : ∃ (y : Str) (f : Addr) (D : Th → Prop) (g : Th → Bool), Cl P w K mg base (lv + 2) y (P1 K D g) ∧ mg y = some (.ref f) ∧ (kind ∉ special → (k_PLAIN_PARTS K).lookup kind = some (.ref f) ∧ plainB kind t = g t ∧ D t) := by
      simp only [kindsOk, List.mem_cons, List.not_mem_nil, or_false] at hk
      have hb := (f_is_block (P := P) (base := base) z).up (k := lv + 2) (by omega)
      rcases hk with rfl | rfl | rfl | rfl | rfl | rfl | rfl | rfl | rfl | rfl | rfl | rfl | rfl | rfl
      · exact ⟨_, _, _, _, hb, z.glo_is_block, fun q => absurd (by decide +kernel) q⟩
      · exact ⟨_, _, _, _, hb, z.glo_is_block, fun q => absurd (by decide +kernel) q⟩
      · exact ⟨_, _, _, _, hb, z.glo_is_block, fun q => absurd (by decide +kernel) q⟩
      · exact ⟨_, _, _, _, hb, z.glo_is_block, fun q => absurd (by decide +kernel) q⟩
      · exact ⟨_, _, _, _, hb, z.glo_is_block, fun q => absurd (by decide +kernel) q⟩
      · exact ⟨_, _, _, _, (f_is_name z).up (by omega), z.glo_is_name, fun _ => ⟨rfl, rfl, d.1.sz⟩⟩
      · exact ⟨_, _, _, _, (f_is_phrase z).up (by omega), z.glo_is_phrase, fun _ => ⟨rfl, rfl, d.1.sz⟩⟩
      · exact ⟨_, _, _, _, (f_is_written_number z).up (by omega), z.glo_is_written_number, fun _ => ⟨rfl, rfl, d.1.sz⟩⟩
      · exact ⟨_, _, _, _, (f_is_sign z).up (by omega), z.glo_is_sign, fun _ => ⟨rfl, rfl, d.2 (.inl rfl)⟩⟩
      · exact ⟨_, _, _, _, (f_is_how z).up (by omega), z.glo_is_how, fun _ => ⟨rfl, rfl, d.2 (.inr rfl)⟩⟩
      · exact ⟨_, _, _, _, (f_is_perhaps_name z).up (by omega), z.glo_is_perhaps_name, fun _ => ⟨rfl, rfl, d.1.sz⟩⟩
      · exact ⟨_, _, _, _, hb, z.glo_is_block, fun _ => ⟨rfl, rfl, trivial⟩⟩
      · exact ⟨_, _, _, _, (f_is_parameters z).up (by omega), z.glo_is_parameters, fun _ => ⟨rfl, rfl, d.1.sz⟩⟩
      · exact ⟨_, _, _, _, (f_is_methods z).up (by omega), z.glo_is_methods, fun _ => ⟨rfl, rfl, d.1.sz⟩⟩
    refine ⟨_, (pss_cons (ps_if (pt_cmpR op_eq (pv 0) pe_str (nomark _)) (pss_one (ps_ret (pe_c c_is_expression hr (by first | decide | omega) (by rfl) (pa_cons (pv 1) (pa_cons (pv 2) pa_nil))))) pss_nil)
      (pss_cons (ps_if (pt_cmpR op_eq (pv 0) pe_str (nomark _)) (pss_one (ps_ret (pe_or (pe_cmpR op_isN (pv 1) pe_non (nomark _)) (pe_one (pe_c c_is_expression hr (by first | decide | omega) (by rfl) (pa_cons (pv 1) (pa_cons (pv 2) pa_nil))))))) pss_nil)
      (pss_cons (ps_if (pt_cmpR op_eq (pv 0) pe_str (nomark _)) (pss_one (ps_ret (pe_c c_is_expressions hr (by first | decide | omega) (by rfl) (pa_cons (pv 1) (pa_cons (pe_gi z.int_MOST_ITEMS) (pa_cons (pv 2) pa_nil)))))) pss_nil)
      (pss_cons (ps_if (pt_cmpR op_eq (pv 0) pe_str (nomark _)) (pss_one (ps_ret (pe_c c_is_expressions hr (by first | decide | omega) (by rfl) (pa_cons (pv 1) (pa_cons (pe_gi z.int_MOST_ARGUMENTS) (pa_cons (pv 2) pa_nil)))))) pss_nil)
      (pss_cons (ps_if (pt_cmpR op_eq (pv 0) pe_str (nomark _)) (pss_one (ps_ret (pe_c c_is_rows hr (by first | decide | omega) (by rfl) (pa_cons (pv 1) (pa_cons (pv 2) pa_nil))))) pss_nil)
      (pss_cons (ps_set (i := 3) K0.c_is_part.nd rfl (.inl rfl) (pe_ix (show IxR _ (rIxD K w) from ix_kdict) (pe_gr z.glo_PLAIN_PARTS) (pv 0) (fun _ _ => rfl)))
      (pss_one (ps_ret (pe_cl cy hf hr (by first | decide | omega) (i := 3) rfl (.inl rfl) (pa_cons (pv 1) pa_nil)))))))))), ?_⟩
    by_cases k1 : kind = "expression"
    · subst k1
      exact q_when (et_test (ev_op (ev_var rfl) ev_c yes_sEq)) (fun _ H1 e => s_ret (ev_spE (ev_var rfl) (ev_var rfl) (r.mono e) d.1) fun H2 e2 => k H2 (e.trans e2)) (fun q => nomatch q)
    refine q_when (et_test (ev_op (ev_var rfl) ev_c (not_sEq k1))) (fun q => nomatch q) fun _ H1 e1 => ?_
    by_cases k2 : kind = "perhaps an expression"
    · subst k2
      refine q_when (et_test (ev_op (ev_var rfl) ev_c yes_sEq)) (fun _ H2 e2 => s_ret (ev_orV (ev_op (ev_var rfl) ev_c rv_isN) fun _ => ev_spE (ev_var rfl) (ev_var rfl) (r.mono (e1.trans e2)) d.1) fun H3 e3 => ?_) (fun q => nomatch q)
      rw [isNon_v r]
      exact k H3 ((e1.trans e2).trans e3)
    refine q_when (et_test (ev_op (ev_var rfl) ev_c (not_sEq k2))) (fun q => nomatch q) fun _ H2 e2 => ?_
    have e12 := e1.trans e2
    by_cases k3 : kind = "items"
    · subst k3
      exact q_when (et_test (ev_op (ev_var rfl) ev_c yes_sEq)) (fun _ H3 e3 => s_ret (ev_spEs (m := 4) (ev_var rfl) ev_c (ev_var rfl) (r.mono (e12.trans e3)) d.1) fun H4 e4 => k H4 ((e12.trans e3).trans e4)) (fun q => nomatch q)
    refine q_when (et_test (ev_op (ev_var rfl) ev_c (not_sEq k3))) (fun q => nomatch q) fun _ H3 e3 => ?_
    have e13 := e12.trans e3
    by_cases k4 : kind = "arguments"
    · subst k4
      exact q_when (et_test (ev_op (ev_var rfl) ev_c yes_sEq)) (fun _ H4 e4 => s_ret (ev_spEs (m := 3) (ev_var rfl) ev_c (ev_var rfl) (r.mono (e13.trans e4)) d.1) fun H5 e5 => k H5 ((e13.trans e4).trans e5)) (fun q => nomatch q)
    refine q_when (et_test (ev_op (ev_var rfl) ev_c (not_sEq k4))) (fun q => nomatch q) fun _ H4 e4 => ?_
    have e14 := e13.trans e4
    by_cases k5 : kind = "rows"
    · subst k5
      exact q_when (et_test (ev_op (ev_var rfl) ev_c yes_sEq)) (fun _ H5 e5 => s_ret (ev_spE (ev_var rfl) (ev_var rfl) (r.mono (e14.trans e5)) d.1) fun H6 e6 => k H6 ((e14.trans e5).trans e6)) (fun q => nomatch q)
    refine q_when (et_test (ev_op (ev_var rfl) ev_c (not_sEq k5))) (fun q => nomatch q) fun _ H5 e5 => ?_
    have e15 := e14.trans e5
    have ns : kind ∉ special := by
      simp only [special, List.mem_cons, List.not_mem_nil, or_false, not_or]
      exact ⟨k1, k2, k3, k4, k5⟩
    obtain ⟨hv, hg, hd⟩ := hp ns
    have hpt : partB E kind t = g t := by
      unfold partB
      rw [if_neg k1, if_neg k2, if_neg k3, if_neg k4, if_neg k5, hg]
    rw [hpt] at k
    refine q_asg (look_kix DP (z.look_PLAIN_PARTS kind) hv ev_c (ev_var rfl)) fun H6 e6 => s_ret (ev_callL rfl (ev_var rfl) (r.mono (e15.trans e6)) hd) fun H7 e7 => k H7 ((e15.trans e6).trans e7)
end
end K0
/-! ## K0I -/
set_option Elab.async false
set_option linter.all false
set_option maxRecDepth 100000
set_option maxHeartbeats 4000000
namespace K0
open PySem PySem.Spec PyProof.Rows L2 Evl RZ KB
section
variable {P : Program} {w : World} {K : PySem.W.Frag} {mg : Str → Option Value} {base : Heap} {σ : L2.St} {H : Hp} {ta tb tc td te : TE} {x kv : V} {X0 : XK}
theorem KV.mono {H H' : Hp} (e : Ex H H') {v : V} {ks : Option (List Str)} (h : KV K H v ks) : KV K H' v ks := by
  cases ks with
  | none => exact h
  | some l =>
    obtain ⟨a, rfl, q⟩ := h
    exact ⟨a, rfl, ex_t e q⟩
theorem ev_spPart {n : Nat} {E : Th → Bool} {kind : Str} {t : Th} (h : Ev ta σ H (.str kind)) (h2 : Ev tb σ H x) (h3 : Ev tc σ H (.int (dp n))) (hk : kind ∈ kindsOk) (r : Rep K H x t) (d : PAdm kind t) : Ev (tCall (spPart K n E) [] X0 (tCons ta (tCons tb (tCons tc tNil)))) σ H (.bl (partB E kind t)) :=
  ev_pu (ea_cons h (ea_cons h2 (ea_cons h3 ea_nil))) fun H1 e => ⟨kind, x, t, rfl, hk, r.mono e, d, rfl⟩
theorem zip_at {α β : Type} {l : List α} {m : List β} {i : Nat} {p : α × β} (h : (l.zip m)[i]? = some p) : l[i]? = some p.1 ∧ m[i]? = some p.2 := by
  rw [List.getElem?_zip_eq_some] at h
  exact h
theorem ei_zipTail {b : Addr} {ks ys : List V} (h1 : Ev ta σ H (.ref b)) (hb : SqT K H b ks) (h2 : EvU te σ H ys) (H1 : Hp) (e : Ex H H1) (R : It → Hp → Prop) (q : ∀ p H2, Ex H1 H2 → SqT K H2 b ks → H2 p = some (.tup ys) → R (ItzT K b p) H2) :
    iZipA K (tCons ta (tCons te tNil)) σ H1 R :=
  h1 H1 e _ fun H2 e2 => h2 H2 (e.trans e2) _ fun p H3 hp e3 h3 => ⟨b, p, ks, ys, rfl, .inr ⟨ex_t ((e.trans e2).trans e3) hb, st_of h3, q p H3 (e2.trans e3) (ex_t ((e.trans e2).trans e3) hb) h3⟩⟩
theorem f_has_parts (z : Cz w K mg) (n : Nat) (lv : Nat) (E : Th → Bool) (c_is_part : Cl P w K mg base lv "is_part" (spPart K n E)) : Cl P w K mg base (lv + 1) "has_parts" (spParts K n E) := by
  refine cal_of z.fn_has_parts z.glo_has_parts K0.c_has_parts (fun vs H Q E h => ?_) (fun cdv A outer s H vs Q _ hr h => ?_)
  · obtain ⟨_, ⟨x, t, kv, ks, rfl, _⟩, _⟩ := h
    rfl
  · obtain ⟨_, ⟨x, t, kv, ks, rfl, r, ad, hkv, hks, rfl⟩, k⟩ := h
    refine ⟨_, (pss_cons (ps_if (PW.pt (pw_or (pt_cmpR op_isN (pv 1) pe_non (nomark _)) (pw_or1 (pt_cmpR op_ne (pe_callB call_len_seq (by rfl) z.free_len PySem.boot_len (pa_cons (pv 0) pa_nil)) (pe_op op_add (pe_callB call_len_seq (by rfl) z.free_len PySem.boot_len (pa_cons (pv 1) pa_nil)) pe_int) (nomark _))))) (pss_one (ps_ret pe_bl)) pss_nil)
      (pss_one (ps_ret (pe_callB (cr_all rfl) (by rfl) z.free_all (by decide +kernel) (pa_cons (pe_lc (own := [("kind", 3), ("part", 4)]) rfl K0.c_has_parts.nd (pi_zipA (by rfl) z.free_zip (pa_cons (pv 1) (pa_cons (pe_slice (show SlR _ (rSlA K) from sl_tupA) (pv 0) (po_some pe_int) po_none) pa_nil))) (blkOk_by (N := N_has_parts) (sc := defScope s_has_parts) (by decide +kernel)) (fun _ _ _ _ _ => (show PG _ _ (gTup K 2 (gCons (gName 3) (gCons (gName 4) gNil))) from by refine pg_tup rfl (pgs_cons ?g0 (pgs_cons ?g1 pgs_nil)); (case g0 => exact (pg_name (i := 3) K0.c_has_parts.nd rfl (.inl rfl))); (case g1 => exact (pg_name (i := 4) K0.c_has_parts.nd rfl (.inl rfl))))) (fun _ _ _ _ _ => pts_nil) (fun _ _ _ _ _ => (pe_c c_is_part hr (by first | decide | omega) (by rfl) (pa_cons (pv 3) (pa_cons (pv 4) (pa_cons (pv 2) pa_nil)))))) pa_nil))))), ?_⟩
    cases ks with
    | none =>
      have hkv : kv = .non := hkv
      subst hkv
      refine q_when (b := true) (et_or (a := true) (b := true) (et_test (ev_op (ev_var rfl) ev_c rv_isN)) fun hh => nomatch hh) (fun _ H1 e => s_ret ev_c fun H2 e2 => ?_) (fun q => nomatch q)
      have q := k H2 (e.trans e2)
      have h2 : partsB E none t = false := by cases t <;> rfl
      rw [h2] at q
      exact q
    | some l =>
      obtain ⟨b, rfl, hb⟩ := hkv
      obtain ⟨ln, lk, ts, rfl, lp⟩ := hks l rfl
      cases r with
      | tup h rs =>
        rename_i a vs
        have hl := rs.length
        refine q_when (b := !decide (ts.length = l.length + 1)) (et_is (et_or (et_test (ev_op (ev_var rfl) ev_c rv_isN)) fun _ => et_test (ev_op (ev_lenT (ev_var rfl) h) (ev_op (ev_lenT (ev_var rfl) hb) ev_c rv_I0) rv_iNe)) ?_) (fun hh H1 e => s_ret ev_c fun H2 e2 => ?_) (fun hh H1 e => ?_)
        · rw [hl, List.length_map]
          show (decide (V.ref b = .non) || _) = _
          rw [decide_eq_false (fun q => nomatch q), Bool.false_or]
          congr 1
          exact decide_eq_decide.mpr (by omega)
        · have q := k H2 (e.trans e2)
          have h2 : partsB E (some l) (.tup ts) = false := by
            show (decide (ts.length = l.length + 1) && _) = false
            rw [show decide (ts.length = l.length + 1) = false by simpa using hh, Bool.false_and]
          rw [h2] at q
          exact q
        · have n1 : ts.length = l.length + 1 := by simpa using hh
          have lz : (l.zip (ts.drop 1)).length = l.length := by
            rw [List.length_zip, List.length_drop]
            omega
          have h2 : partsB E (some l) (.tup ts) = (((l.zip (ts.drop 1)).map fun p => partB E p.1 p.2).all id) := by
            show (decide (ts.length = l.length + 1) && _) = _
            rw [decide_eq_true n1, Bool.true_and, List.all_map]
            rfl
          rw [h2] at k
          refine s_ret (ev_all (bs := (l.zip (ts.drop 1)).map fun p => partB E p.1 p.2) (el_lcW2 (n := l.length) _ (by rw [List.length_map, List.length_map, lz]) (by omega) fun H2 e2 R q => ?_)) fun H2 e2 => k H2 (e.trans e2)
          refine ei_zipTail (ev_var rfl) (ex_t e hb) (eu_tail (ev_var rfl) (ex_t e h) (by omega)) H2 e2 R fun p H4 e4 hb4 hH4 => q _ _ _ H4 e4 (walk_zipT (n := l.length) (by rw [List.length_map, List.length_drop]; omega)) (fun H' e5 => ⟨ex_t e5 hb4, ex_t e5 (st_of hH4)⟩) fun i x y H5 H6 e5 hy hyi => ?_
          obtain ⟨T, v1, v2, rfl, hT, rfl, g1, g2⟩ := hy
          refine ⟨Ex.new hT, fun Qc kc => g_pair upd_same (kc _ _ rfl (Ex.refl _) ?_)⟩
          obtain ⟨pr, hpr, rfl⟩ : ∃ pr, (l.zip (ts.drop 1))[i]? = some pr ∧ V.bl (partB E pr.1 pr.2) = y := by
            rw [List.getElem?_map, List.getElem?_map] at hyi
            cases hz : (l.zip (ts.drop 1))[i]? with
            | none =>
              rw [hz] at hyi
              cases hyi
            | some pr =>
              rw [hz] at hyi
              exact ⟨pr, rfl, Option.some.inj hyi⟩
          obtain ⟨p1, p2⟩ := zip_at hpr
          have g1' : v1 = .str pr.1 := by
            have g1 : (l.map V.str)[i]? = some v1 := g1
            rw [List.getElem?_map, p1] at g1
            exact (Option.some.inj g1).symm
          subst g1'
          have rd := ((rs.drop 1).mono ((((e.trans e2).trans e4).trans e5).trans (Ex.new hT (o := .tup [V.str pr.1, v2]))))
          obtain ⟨t2, ht2, rt2⟩ := rd.get g2
          have e9 : t2 = pr.2 := by
            rw [p2] at ht2
            exact (Option.some.inj ht2).symm
          subst e9
          exact ev_spPart (ev_var rfl) (ev_var rfl) (ev_var rfl) (lk _ (List.mem_of_getElem? p1)) rt2 (lp pr (List.mem_of_getElem? hpr))
/-! the tables' kinds are told; a sign or a way stands behind "op" and "call" alone, at once -/
def tabOk (t : List (Str × List Str)) : Bool := t.all fun p => decide (p.2.length ≤ 10) && (p.2.all fun k => decide (k ∈ kindsOk)) && ((p.2.drop 1).all fun k => !decide (k = "sign") && !decide (k = "how")) && ((decide (p.1 = "op") || decide (p.1 = "call")) || (p.2.all fun k => !decide (k = "sign") && !decide (k = "how")))
theorem tab_e : tabOk t_EXPRESSIONS = true := by decide +kernel
theorem tab_s : tabOk t_STATEMENTS = true := by decide +kernel
theorem lookup_mem {α : Type} : ∀ {l : List (Str × α)} {z : Str} {v : α}, l.lookup z = some v → (z, v) ∈ l
  | [], _, _, h => by cases h
  | (a, b) :: l, z, v, h => by
    rw [List.lookup_cons] at h
    cases q : (z == a) with
    | true =>
      rw [q] at h
      have e := beq_iff_eq.mp q
      cases h
      subst e
      exact List.mem_cons_self
    | false =>
      rw [q] at h
      exact List.mem_cons_of_mem _ (lookup_mem h)
theorem lookup_map {α β : Type} (f : Str → α → β) : ∀ (l : List (Str × α)) (z : Str), (l.map fun p => (p.1, f p.1 p.2)).lookup z = (l.lookup z).map (f z)
  | [], z => rfl
  | (a, b) :: l, z => by
    rw [List.map_cons, List.lookup_cons, List.lookup_cons]
    cases q : (z == a) with
    | true =>
      have e := beq_iff_eq.mp q
      subst e
      rfl
    | false => exact lookup_map f l z
theorem fw_tup {t : Th} {T : List (Str × List Str)} (h0 : T.lookup ("" : Str) = none) {l : List Str} (h : T.lookup (fw t) = some l) : ∃ w ts, t = .tup (.str w :: ts) ∧ fw t = w := by
  unfold fw at h
  split at h
  · rename_i w ts
    exact ⟨w, ts, rfl, rfl⟩
  · rw [h0] at h
    cases h
/-- what the parts of a thing of the table must be is so -/
theorem parts_adm {t : Th} (ad : Adm t) {T : List (Str × List Str)} (hT : tabOk T = true) (h0 : T.lookup ("" : Str) = none) {l : List Str} (h : T.lookup (fw t) = some l) :
    l.length ≤ 100 ∧ (∀ k ∈ l, k ∈ kindsOk) ∧ ∃ ts, t = .tup ts ∧ ∀ p ∈ l.zip (ts.drop 1), PAdm p.1 p.2 := by
  obtain ⟨w, ts, rfl, hw⟩ := fw_tup h0 h
  rw [hw] at h
  have m := List.all_eq_true.mp hT _ (lookup_mem h)
  simp only [Bool.and_eq_true, decide_eq_true_eq, Bool.or_eq_true, List.all_eq_true, Bool.not_eq_true', decide_eq_false_iff_not] at m
  obtain ⟨⟨⟨m1, m2⟩, m3⟩, m4⟩ := m
  refine ⟨by omega, m2, _, rfl, fun p hp => ?_⟩
  obtain ⟨i, hi⟩ := List.getElem?_of_mem hp
  obtain ⟨p1, p2⟩ := zip_at hi
  have p2' : (Th.str w :: ts)[i + 1]? = some p.2 := by
    rw [List.getElem?_drop] at p2
    rw [← p2]
    congr 1
    omega
  refine ⟨ad.tup.2.2 _ _ p2', fun hk => ?_⟩
  cases i with
  | zero =>
    have ho := ad.tup.2.1
    cases ts with
    | nil => cases p2'
    | cons x r =>
      have e2 : x = p.2 := Option.some.inj p2'
      have ho : (!(decide (w = "op") || decide (w = "call")) || flat x) = true := ho
      rw [e2] at ho
      rcases m4 with m4 | m4
      · rcases m4 with m4 | m4
        · rw [decide_eq_true m4] at ho
          exact ho
        · rw [decide_eq_true m4, Bool.or_true] at ho
          exact ho
      · have q := m4 p.1 (List.mem_of_getElem? p1)
        rcases hk with hk | hk
        · exact absurd hk q.1
        · exact absurd hk q.2
  | succ i =>
    have q := m3 p.1 (List.mem_of_getElem? (i := i) (by rw [List.getElem?_drop, Nat.add_comm]; exact p1))
    rcases hk with hk | hk
    · exact absurd hk q.1
    · exact absurd hk q.2
theorem ev_fw {t : Th} (h : Ev ta σ H x) (r : Rep K H x t) : Ev (tCall (spFw K) [] X0 (tCons ta tNil)) σ H (.str (fw t)) := ev_pu (ea_cons h ea_nil) fun H1 e => ⟨x, t, rfl, r.mono e, rfl⟩
theorem kv_e (z : Cz w K mg) (H : Hp) (s : Str) : KV K H (((k_EXPRESSIONS K).lookup s).getD .non) (t_EXPRESSIONS.lookup s) := by
  have e : (k_EXPRESSIONS K).lookup s = (t_EXPRESSIONS.lookup s).map fun _ => V.ref (atK "EXPRESSIONS" s K) := lookup_map (fun k _ => V.ref (atK "EXPRESSIONS" k K)) t_EXPRESSIONS s
  rw [e]
  cases h : t_EXPRESSIONS.lookup s with
  | none => rfl
  | some l => exact ⟨_, rfl, z.vals_EXPRESSIONS (lookup_mem h) H⟩
theorem kv_s (z : Cz w K mg) (H : Hp) (s : Str) : KV K H (((k_STATEMENTS K).lookup s).getD .non) (t_STATEMENTS.lookup s) := by
  have e : (k_STATEMENTS K).lookup s = (t_STATEMENTS.lookup s).map fun _ => V.ref (atK "STATEMENTS" s K) := lookup_map (fun k _ => V.ref (atK "STATEMENTS" k K)) t_STATEMENTS s
  rw [e]
  cases h : t_STATEMENTS.lookup s with
  | none => rfl
  | some l => exact ⟨_, rfl, z.vals_STATEMENTS (lookup_mem h) H⟩
theorem ev_parts {n : Nat} {E : Th → Bool} {t : Th} {ks : Option (List Str)} (h : Ev ta σ H x) (h2 : Ev tb σ H kv) (h3 : Ev tc σ H (.int (dp n))) (r : Rep K H x t) (d : Adm t) (hk : ∀ H, KV K H kv ks)
    (q : ∀ l, ks = some l → l.length ≤ 100 ∧ (∀ k ∈ l, k ∈ kindsOk) ∧ ∃ ts, t = .tup ts ∧ ∀ p ∈ l.zip (ts.drop 1), PAdm p.1 p.2) : Ev (tCall (spParts K n E) [] X0 (tCons ta (tCons tb (tCons tc tNil)))) σ H (.bl (partsB E ks t)) :=
  ev_pu (ea_cons h (ea_cons h2 (ea_cons h3 ea_nil))) fun H1 e => ⟨x, t, kv, ks, rfl, r.mono e, d, hk H1, q, rfl⟩
theorem dp_succ (n : Nat) : dp (n + 1) + 1 = dp n := by
  unfold dp
  omega
/-- is_expression at each depth -/
theorem f_is_expression (z : Cz w K mg) : ∀ n : Nat, n ≤ 6 → Cl P w K mg base (5 * n + 4) "is_expression" (spE K n (exprB n))
  | 0, _ => by
    refine cal_of (k := 5 * 0 + 3) z.fn_is_expression z.glo_is_expression K0.c_is_expression (fun vs H Q E h => ?_) (fun cdv A outer s H vs Q _ hr h => ?_)
    · obtain ⟨_, ⟨x, t, rfl, _⟩, _⟩ := h
      rfl
    · obtain ⟨_, ⟨x, t, rfl, r, ad, rfl⟩, k⟩ := h
      refine ⟨_, pss_cons (ps_if (pt_cmpR op_gt (pv 1) (pe_gi z.int_DEEPEST_EXPRESSION) (nomark _)) (pss_one (ps_ret pe_bl)) pss_nil) pss_never, ?_⟩
      exact q_when (b := true) (et_is (et_test (ev_op (ev_var rfl) ev_c rv_I0)) (decide_eq_true (by unfold dp; omega))) (fun _ H1 e => s_ret ev_c fun H2 e2 => k H2 (e.trans e2)) fun q => nomatch q
  | n + 1, hn => by
    have ih := f_is_expression z n (by omega)
    have c_first_word := f_first_word (P := P) (base := base) z
    have c_has_parts := f_has_parts z n _ _ (f_is_part z n _ (by omega) _ ih)
    obtain ⟨es, en, D_EXPRESSIONS⟩ := z.dict_EXPRESSIONS
    refine cal_of (k := 5 * (n + 1) + 3) z.fn_is_expression z.glo_is_expression K0.c_is_expression (fun vs H Q E h => ?_) (fun cdv A outer s H vs Q _ hr h => ?_)
    · obtain ⟨_, ⟨x, t, rfl, _⟩, _⟩ := h
      rfl
    · obtain ⟨_, ⟨x, t, rfl, r, ad, rfl⟩, k⟩ := h
      refine ⟨_, (pss_cons (ps_if (pt_cmpR op_gt (pv 1) (pe_gi z.int_DEEPEST_EXPRESSION) (nomark _)) (pss_one (ps_ret pe_bl)) pss_nil)
      (pss_one (ps_ret (pe_c c_has_parts hr (by first | decide | omega) (by rfl) (pa_cons (pv 0) (pa_cons (pe_kget D_EXPRESSIONS (pe_gr z.glo_EXPRESSIONS) (pe_c c_first_word hr (by first | decide | omega) (by rfl) (pa_cons (pv 0) pa_nil)) ⟨rfl, rfl, rfl, rfl⟩) (pa_cons (pe_op op_add (pv 1) pe_int) pa_nil))))))), ?_⟩
      refine q_when (b := false) (et_is (et_test (ev_op (ev_var rfl) ev_c rv_I0)) (decide_eq_false (by unfold dp; omega))) (fun q => nomatch q) fun _ H1 e => s_ret (ev_parts (n := n) (ks := t_EXPRESSIONS.lookup (fw t)) (ev_var rfl) (ev_kget ev_c (ev_fw (ev_var rfl) (r.mono e)) (z.look_EXPRESSIONS _)) (ev_is (ev_op (ev_var rfl) ev_c rv_I0) (by rw [dp_succ])) (r.mono e) ad (fun H => kv_e z H _) fun l hl => parts_adm ad tab_e rfl hl) fun H2 e2 => k H2 (e.trans e2)
end
end K0
/-! ## K0J -/
set_option Elab.async false
set_option linter.all false
set_option maxRecDepth 100000
set_option maxHeartbeats 4000000
namespace K0
open PySem PySem.Spec PyProof.Rows L2 Evl RZ KB
/-! the mirror of statements -/
def howIn : Th → Bool
  | .str s => decide (s = "let") || decide (s = "set")
  | _ => false
def lenT : Th → Nat
  | .lst l => l.length
  | _ => 0
def restB (w : Str) (ts : List Th) : Bool :=
  if w = "call" then decide ((!((ts[2]?).map isNonT).getD false) = ((ts[1]?).map howIn).getD false)
  else if w = "try" then !(((ts[2]?).map isNonT).getD false) || (decide (((ts[3]?).map lenT).getD 0 = 0) && decide (0 < ((ts[4]?).map lenT).getD 0))
  else true
def stmtB (t : Th) : Bool := partsB (exprB 5) (t_STATEMENTS.lookup (fw t)) t && (match t with
  | .tup ts => restB (fw t) ts
  | _ => true)
section
variable {P : Program} {w : World} {K : PySem.W.Frag} {mg : Str → Option Value} {base : Heap} {σ : L2.St} {H : Hp} {ta tb tc td te : TE} {x y kv : V} {X0 : XK}
theorem rep_non {t : Th} (r : Rep K H x t) : decide (x = .non) = isNonT t := by
  cases r <;> first | rfl | exact decide_eq_false fun q => nomatch q
theorem parts_some {E : Th → Bool} {o : Option (List Str)} {t : Th} (h : partsB E o t = true) : ∃ l ts, o = some l ∧ t = .tup ts ∧ ts.length = l.length + 1 ∧ ∀ (i : Nat) (k : Str) (u : Th), l[i]? = some k → ts[i + 1]? = some u → partB E k u = true := by
  cases o with
  | none => cases t <;> cases h
  | some l =>
    cases t with
    | tup ts =>
      obtain ⟨h1, h2⟩ := Bool.and_eq_true_iff.mp (show (decide (ts.length = l.length + 1) && (l.zip (ts.drop 1)).all fun p => partB E p.1 p.2) = true from h)
      refine ⟨l, ts, rfl, rfl, of_decide_eq_true h1, fun i k u hk hu => ?_⟩
      have m : (k, u) ∈ l.zip (ts.drop 1) := by
        refine List.mem_of_getElem? (i := i) ?_
        rw [List.getElem?_zip_eq_some]
        refine ⟨hk, ?_⟩
        rw [List.getElem?_drop, Nat.add_comm]
        exact hu
      exact List.all_eq_true.mp h2 (k, u) m
    | _ => cases h
/-- an item of a tuple that is told -/
theorem ev_item {ts : List Th} {i : Nat} {t : Th} (h : Ev ta σ H x) (r : Rep K H x (.tup ts)) (hi : ts[i]? = some t) : ∃ v, Rep K H v t ∧ Ev (tOp (rIxT K) ta (tC (.int (i : Int)))) σ H v := by
  cases r with
  | tup h1 rs =>
    obtain ⟨v, hv, rv⟩ := rs.get' hi
    exact ⟨v, rv, ev_ixT h h1 hv⟩
theorem rv_bEq {a b : Bool} : RV rEq (.bl a) (.bl b) H (.bl (decide (a = b))) := by
  have h := rv_eq (H := H) (x := .bl a) (y := .bl b) rfl
  by_cases e : a = b
  · rw [decide_eq_true e]
    rwa [decide_eq_true (show (V.bl a) = .bl b by rw [e])] at h
  · rw [decide_eq_false e]
    rwa [decide_eq_false (fun q : V.bl a = .bl b => e (V.bl.inj q))] at h
theorem ev_lenRep {t : Th} (h : Ev ta σ H x) (r : Rep K H x t) (hl : isLst t = true) : Ev (tCB (rLenS K) (tCons ta tNil)) σ H (.int (lenT t)) := by
  cases r with
  | lst hL rs => exact ev_is (ev_lenL h (sq_of hL)) (by rw [rs.length]; rfl)
  | _ => cases hl
theorem lk_call : t_STATEMENTS.lookup ("call" : Str) = some (["how", "perhaps a name", "expression", "arguments"] : List Str) := by decide +kernel
theorem lk_try : t_STATEMENTS.lookup ("try" : Str) = some (["block", "perhaps a name", "block", "block"] : List Str) := by decide +kernel
theorem part_how {E : Th → Bool} {t : Th} (h : partB E "how" t = true) : isHowT t = true := h
theorem part_block {E : Th → Bool} {t : Th} (h : partB E "block" t = true) : isLst t = true := h
theorem f_is_statement (z : Cz w K mg) : Cl P w K mg base 34 "is_statement" (P1 K Adm stmtB) := by
  have c_first_word := f_first_word (P := P) (base := base) z
  have c_has_parts := f_has_parts z 5 _ _ (f_is_part z 5 _ (by omega) _ (f_is_expression (P := P) (base := base) z 5 (by omega)))
  obtain ⟨es, en, D_STATEMENTS⟩ := z.dict_STATEMENTS
  refine cal_of (k := 33) z.fn_is_statement z.glo_is_statement K0.c_is_statement (fun vs H Q E h => ?_) (fun cdv A outer s H vs Q _ hr h => ?_)
  · obtain ⟨_, ⟨x, t, rfl, _⟩, _⟩ := h
    rfl
  · obtain ⟨_, ⟨x, t, rfl, r, ad, rfl⟩, k⟩ := h
    refine ⟨_, (pss_cons (ps_set (i := 1) K0.c_is_statement.nd rfl (.inl rfl) (pe_c c_first_word hr (by first | decide | omega) (by rfl) (pa_cons (pv 0) pa_nil)))
      (pss_cons (ps_if (pt_not (pt_val (pe_c c_has_parts hr (by first | decide | omega) (by rfl) (pa_cons (pv 0) (pa_cons (pe_kget D_STATEMENTS (pe_gr z.glo_STATEMENTS) (pv 1) ⟨rfl, rfl, rfl, rfl⟩) (pa_cons pe_int pa_nil)))))) (pss_one (ps_ret pe_bl)) pss_nil)
      (pss_cons (ps_if (pt_cmpR op_eq (pv 1) pe_str (nomark _)) (pss_one (ps_ret (pe_cmpR op_eq (pe_cmpR op_notN (pe_ix (show IxR _ (rIxT K) from ix_tup) (pv 0) pe_int (fun _ _ => rfl)) pe_non (nomark _)) (pe_cmpR op_in_seq (pe_ix (show IxR _ (rIxT K) from ix_tup) (pv 0) pe_int (fun _ _ => rfl)) (pe_tup (pa_cons pe_str (pa_cons pe_str pa_nil))) (by rfl)) (nomark _)))) pss_nil)
      (pss_cons (ps_if (PW.pt (pw_and (pt_cmpR op_eq (pv 1) pe_str (nomark _)) (pw_and1 (pt_cmpR op_isN (pe_ix (show IxR _ (rIxT K) from ix_tup) (pv 0) pe_int (fun _ _ => rfl)) pe_non (nomark _))))) (pss_one (ps_ret (pe_and (pe_cmpR op_eq (pe_callB call_len_seq (by rfl) z.free_len PySem.boot_len (pa_cons (pe_ix (show IxR _ (rIxT K) from ix_tup) (pv 0) pe_int (fun _ _ => rfl)) pa_nil)) pe_int (nomark _)) (pe_one (pe_cmpR op_gt (pe_callB call_len_seq (by rfl) z.free_len PySem.boot_len (pa_cons (pe_ix (show IxR _ (rIxT K) from ix_tup) (pv 0) pe_int (fun _ _ => rfl)) pa_nil)) pe_int (nomark _)))))) pss_nil)
      (pss_one (ps_ret pe_bl)))))), ?_⟩
    refine s_asg (ev_fw (ev_var rfl) r) fun H1 e1 => ?_
    refine q_when (b := !partsB (exprB 5) (t_STATEMENTS.lookup (fw t)) t) (et_not (et_B (ev_parts (n := 5) (ks := t_STATEMENTS.lookup (fw t)) (ev_var rfl) (ev_kget ev_c (ev_var rfl) (z.look_STATEMENTS _)) ev_c (r.mono e1) ad (fun H => kv_s z H _) fun l hl => parts_adm ad tab_s rfl hl))) (fun hb H2 e2 => s_ret ev_c fun H3 e3 => ?_) (fun hb H2 e2 => ?_)
    · have q := k H3 ((e1.trans e2).trans e3)
      have h2 : stmtB t = false := by
        unfold stmtB
        rw [show partsB (exprB 5) (t_STATEMENTS.lookup (fw t)) t = false by simpa using hb, Bool.false_and]
      rw [h2] at q
      exact q
    · have hp : partsB (exprB 5) (t_STATEMENTS.lookup (fw t)) t = true := by simpa using hb
      obtain ⟨l, ts, hl, rfl, hlen, hpart⟩ := parts_some hp
      have h2 : stmtB (.tup ts) = restB (fw (.tup ts)) ts := by
        unfold stmtB
        rw [hp, Bool.true_and]
      rw [h2] at k
      generalize hw : fw (.tup ts) = wd at k hl
      have r2 := r.mono (e1.trans e2)
      refine q_when (b := decide (wd = "call")) (et_test (ev_op (ev_var rfl) ev_c rv_sEq)) (fun hb H3 e3 => ?_) (fun hb H3 e3 => ?_)
      · have hc : wd = "call" := of_decide_eq_true hb
        subst hc
        rw [lk_call] at hl
        cases hl
        obtain ⟨t1, h1⟩ : ∃ u, ts[1]? = some u := ⟨ts[1]'(by rw [hlen]; decide), by simp⟩
        obtain ⟨t2, h2⟩ : ∃ u, ts[2]? = some u := ⟨ts[2]'(by rw [hlen]; decide), by simp⟩
        have hh := part_how (hpart 0 "how" t1 rfl h1)
        have r3 := r2.mono e3
        obtain ⟨v2, rv2, ev2⟩ := ev_item (ta := tVar 0) (σ := [some x, some (.str "call")]) (ev_var rfl) r3 h2
        obtain ⟨v1, rv1, ev1⟩ := ev_item (ta := tVar 0) (σ := [some x, some (.str "call")]) (ev_var rfl) r3 h1
        cases t1 with
        | str s =>
          cases rv1
          refine s_ret (ev_op (ev_op ev2 ev_c rv_notN) (ev_inU ev1 (eu_tup (ea_cons ev_c (ea_cons ev_c ea_nil)) (by decide)) rfl (by decide +kernel)) rv_bEq) fun H4 e4 => ?_
          have q := k H4 (((e1.trans e2).trans e3).trans e4)
          unfold restB at q
          rw [if_pos rfl, h1, h2, Option.map_some, Option.map_some, Option.getD_some, Option.getD_some] at q
          rw [rep_non rv2]
          have e9 : inV (.str s) [.str "let", .str "set"] = howIn (.str s) := by
            show (eqV (.str "let") (.str s) || (eqV (.str "set") (.str s) || false)) = (decide (s = "let") || decide (s = "set"))
            rw [Bool.or_false]
            congr 1
            · exact decide_eq_decide.mpr ⟨fun q => q.symm, fun q => q.symm⟩
            · exact decide_eq_decide.mpr ⟨fun q => q.symm, fun q => q.symm⟩
          rw [e9]
          exact q
        | _ => cases hh
      · have nc : ¬ wd = "call" := of_decide_eq_false hb
        by_cases ht : wd = "try"
        · subst ht
          rw [lk_try] at hl
          cases hl
          obtain ⟨t2, h2⟩ : ∃ u, ts[2]? = some u := ⟨ts[2]'(by rw [hlen]; decide), by simp⟩
          obtain ⟨t3, h3⟩ : ∃ u, ts[3]? = some u := ⟨ts[3]'(by rw [hlen]; decide), by simp⟩
          obtain ⟨t4, h4⟩ : ∃ u, ts[4]? = some u := ⟨ts[4]'(by rw [hlen]; decide), by simp⟩
          have r3 := r2.mono e3
          obtain ⟨v2, rv2, ev2⟩ := ev_item (ta := tVar 0) (σ := [some x, some (.str "try")]) (ev_var rfl) r3 h2
          obtain ⟨v3, rv3, ev3⟩ := ev_item (ta := tVar 0) (σ := [some x, some (.str "try")]) (ev_var rfl) r3 h3
          obtain ⟨v4, rv4, ev4⟩ := ev_item (ta := tVar 0) (σ := [some x, some (.str "try")]) (ev_var rfl) r3 h4
          unfold restB at k
          rw [if_neg (by decide), if_pos rfl, h2, h3, h4, Option.map_some, Option.map_some, Option.map_some, Option.getD_some, Option.getD_some, Option.getD_some] at k
          refine q_when (b := isNonT t2) (et_is (et_and (et_test (ev_op (ev_var rfl) ev_c rv_sEq)) fun _ => et_test (ev_op ev2 ev_c rv_isN)) ?_) (fun hb H4 e4 => ?_) (fun hb H4 e4 => ?_)
          · rw [rep_non rv2, decide_eq_true rfl, Bool.true_and]
          · refine s_ret (ev_andV (ev_op (ev_lenRep (Ev.mono e4 ev3) (rv3.mono e4) (part_block (hpart 2 "block" t3 rfl h3))) ev_c rv_iEq) fun _ => ev_op (ev_lenRep (Ev.mono e4 ev4) (rv4.mono e4) (part_block (hpart 3 "block" t4 rfl h4))) ev_c rv_I0) fun H5 e5 => ?_
            have q := k H5 ((((e1.trans e2).trans e3).trans e4).trans e5)
            rw [hb] at q
            rw [show decide (((lenT t3 : Nat) : Int) = 0) = decide (lenT t3 = 0) from decide_eq_decide.mpr (by omega)]
            rw [show (decide (((lenT t4 : Nat) : Int) > 0)) = decide (0 < lenT t4) from decide_eq_decide.mpr (by omega)]
            exact q
          · refine s_ret ev_c fun H5 e5 => ?_
            have q := k H5 ((((e1.trans e2).trans e3).trans e4).trans e5)
            rw [hb] at q
            exact q
        · refine q_when (b := false) (et_is (et_and (et_test (ev_op (ev_var rfl) ev_c rv_sEq)) (b := false) fun hh => absurd (of_decide_eq_true hh) ht) (Bool.and_false _)) (fun q => nomatch q) (fun hb H4 e4 => ?_)
          refine s_ret ev_c fun H5 e5 => ?_
          have q := k H5 ((((e1.trans e2).trans e3).trans e4).trans e5)
          unfold restB at q
          rw [if_neg nc, if_neg ht] at q
          exact q
end
end K0
/-! ## K0K -/
set_option Elab.async false
set_option linter.all false
set_option maxRecDepth 100000
set_option maxHeartbeats 4000000
namespace K0
open PySem PySem.Spec PyProof.Rows L2 Evl RZ KB
/-! a list that grows, all else stays -/
def ExO (o : Addr) (H H' : Hp) : Prop := ∀ a u, a ≠ o → H a = some u → H' a = some u
theorem ExO.of {o : Addr} {H H' : Hp} (e : Ex H H') : ExO o H H' := fun a u _ h => e a u h
theorem ExO.upd {o : Addr} {H H' : Hp} {u : HO} (e : ExO o H H') : ExO o H (upd H' o u) := fun a v n h => by
  rw [upd_ne n]
  exact e a v n h
theorem ExO.trans {o : Addr} {H H1 H2 : Hp} (e : ExO o H H1) (e2 : ExO o H1 H2) : ExO o H H2 := fun a u n h => e2 a u n (e a u n h)
theorem ExO.ex {o : Addr} {Hb H H' : Hp} (h0 : Hb o = none) (e : Ex Hb H) (e2 : ExO o H H') : Ex Hb H' := fun a u h => e2 a u (fun q => by
  rw [q, h0] at h
  cases h) (e a u h)
section
variable {P : Program} {w : World} {K : PySem.W.Frag} {mg : Str → Option Value} {base : Heap} {σ : L2.St} {H H' : Hp} {ta tb tc td te : TE} {x y kv : V} {X0 : XK} {tu : TS} {D : Ends}
theorem ExO.sqt {o a : Addr} {acc xs : List V} (ho : H o = some (.lst acc)) (e : ExO o H H') (h : SqT K H a xs) : SqT K H' a xs := by
  rcases h with (h | ⟨v, h⟩) | h
  · refine .inl (.inl (e a _ (fun q => ?_) h))
    rw [q, ho] at h
    cases h
  · refine .inl (.inr ⟨v, e a _ (fun q => ?_) h⟩)
    rw [q, ho] at h
    cases h
  · exact .inr h
theorem s_ext {l b : Addr} {xs zs : List V} (hl : H l = some (.lst xs)) (ha : Ev ta σ H (.ref l)) (h : Ev te σ H (.ref b)) (hb : H b = some (.lst zs)) (hz : xs.length + zs.length ≤ 100000) (k : ∀ H1, Ex H H1 → D.nx σ (upd H1 l (.lst (xs ++ zs)))) :
    tDrop (tBM K "list" rExtend ta (tCons te tNil)) D σ H := ha H (Ex.refl H) _ fun H1 e1 =>
  ⟨Or.inl ⟨rfl, xs, sq_of (e1 l _ hl)⟩, h H1 e1 _ fun H2 e2 => ⟨l, b, xs, zs, rfl, rfl, e2 l _ (e1 l _ hl), e2 b _ (e1 b _ hb), sz_of hz, k H2 (e1.trans e2)⟩⟩
theorem s_extL {l : Addr} {xs zs : List V} (hl : H l = some (.lst xs)) (ha : Ev ta σ H (.ref l)) (h : EvL te σ H zs) (hz : xs.length + zs.length ≤ 100000) (k : ∀ H1, Ex H H1 → D.nx σ (upd H1 l (.lst (xs ++ zs)))) :
    tDrop (tBM K "list" rExtend ta (tCons te tNil)) D σ H := ha H (Ex.refl H) _ fun H1 e1 =>
  ⟨Or.inl ⟨rfl, xs, sq_of (e1 l _ hl)⟩, h H1 e1 _ fun p H2 _ e2 hp => ⟨l, p, xs, zs, rfl, rfl, e2 l _ (e1 l _ hl), hp, sz_of hz, k H2 (e1.trans e2)⟩⟩
theorem flat_take {α β : Type} (g : α → List β) (l : List α) {i : Nat} {p : α} (h : l[i]? = some p) : (l.take (i + 1)).flatMap g = (l.take i).flatMap g ++ g p := by
  rw [take_more h, List.flatMap_append, List.flatMap_cons, List.flatMap_nil, List.append_nil]
/-- for kind, part in zip(kinds, parts): out grows -/
theorem s_gather (f : Str → Th → List Th) {b o : Addr} {l : List Str} {ys : List V} {us : List Th} {Hb : Hp} (S : L2.St → Prop) (h1 : Ev ta σ H (.ref b)) (hb : SqT K H b (l.map V.str)) (h2 : EvU te σ H ys) (hlen : ys.length = l.length) (ry : Reps K Hb ys us) (eb : Ex Hb H) (ho : Hb o = none)
    (hH : H o = some (.lst [])) (S0 : S σ) (hsz : ∀ (i : Nat) (k : Str) (u : Th), l[i]? = some k → us[i]? = some u → (f k u).length ≤ 1000)
    (turn : ∀ (i : Nat) (k : Str) (u : Th) (y : V) σ' H' acc, l[i]? = some k → us[i]? = some u → Rep K Hb y u → S σ' → Ex Hb H' → H' o = some (.lst acc) → acc.length ≤ 1000 * i → i < l.length → ∀ D' : Ends,
      (∀ zs H'', Reps K Hb zs (f k u) → ExO o H' H'' → H'' o = some (.lst (acc ++ zs)) → D'.nx ((σ'.set 2 (some (.str k))).set 3 (some y)) H'') → tu D' ((σ'.set 2 (some (.str k))).set 3 (some y)) H')
    (hS : ∀ σ' a b, S σ' → S ((σ'.set 2 a).set 3 b)) (done : ∀ σ' H' vs, S σ' → Ex Hb H' → H' o = some (.lst vs) → Reps K Hb vs ((l.zip us).flatMap fun p => f p.1 p.2) → D.nx σ' H') :
    tFor (iZipA K (tCons ta (tCons te tNil))) (gTup K 2 (gCons (gName 2) (gCons (gName 3) gNil))) tu D σ H := by
  show iZipA K (tCons ta (tCons te tNil)) σ H _
  refine ei_zipTail h1 hb h2 H (Ex.refl H) _ fun p H2 e2 hb2 hp2 => ?_
  have hul : us.length = l.length := by rw [← ry.length, hlen]
  have hzl : (l.zip us).length = l.length := by rw [List.length_zip, hul, Nat.min_self]
  refine for_it (walk_zipT (K := K) (n := l.length) (a := b) (b := p) (xs := l.map V.str) (ys := ys) (by rw [List.length_map, hlen, Nat.min_self]))
    (fun i σ' H' => S σ' ∧ Ex Hb H' ∧ SqT K H' b (l.map V.str) ∧ SqT K H' p ys ∧ ∃ vs, H' o = some (.lst vs) ∧ Reps K Hb vs (((l.zip us).take i).flatMap fun p => f p.1 p.2) ∧ vs.length ≤ 1000 * i)
    ⟨S0, eb.trans e2, hb2, st_of hp2, [], e2 _ _ hH, by rw [List.take_zero]; exact .nil, Nat.zero_le _⟩ (fun i σ' H' _ q => ⟨q.2.2.1, q.2.2.2.1⟩) ?_ ?_
  · rintro i v σ' H' H'' hi ⟨q1, q2, q3, q4, vs, q5, q6, q7⟩ ⟨T, v1, v2, rfl, hT, rfl, g1, g2⟩
    obtain ⟨k, hk⟩ : ∃ k, l[i]? = some k := ⟨l[i]'hi, by simp⟩
    have g1' : v1 = .str k := by
      have g1 : (l.map V.str)[i]? = some v1 := g1
      rw [List.getElem?_map, hk] at g1
      exact (Option.some.inj g1).symm
    subst g1'
    obtain ⟨u, hu, ru⟩ := ry.get g2
    have nT : o ≠ T := fun q => by
      rw [← q, q5] at hT
      cases hT
    refine g_pair upd_same ?_
    have hz : (l.zip us)[i]? = some (k, u) := by
      rw [List.getElem?_zip_eq_some]
      exact ⟨hk, hu⟩
    refine turn i k u v2 σ' _ vs hk hu ru q1 (q2.trans (Ex.new hT)) (by rw [upd_ne nT]; exact q5) q7 hi _ fun zs H3 rz e3 h3 => ?_
    have eo : ExO o H' H3 := (ExO.of (Ex.new hT)).trans e3
    refine ⟨hS _ _ _ q1, eo.ex ho q2, eo.sqt q5 q3, eo.sqt q5 q4, vs ++ zs, h3, ?_, ?_⟩
    · rw [flat_take _ _ hz]
      exact q6.append rz
    · have h9 := hsz i k u hk hu
      rw [← rz.length] at h9
      rw [List.length_append]
      omega
  · rintro σ' H' ⟨q1, q2, q3, q4, vs, q5, q6, q7⟩
    rw [← hzl, List.take_length] at q6
    exact done σ' H' vs q1 q2 q5 q6
/-! the expressions of a statement, its blocks -/
def elems : Th → List Th
  | .lst l => l
  | _ => []
def exOf1 (k : Str) (t : Th) : List Th := if k = "arguments" then elems t else if k = "expression" ∨ (k = "perhaps an expression" ∧ isNonT t = false) then [t] else []
def thirdT : Th → Th
  | .tup ts => (ts[2]?).getD .non
  | _ => .non
def blOf1 (k : Str) (t : Th) : List Th := if k = "block" then [t] else if k = "methods" then (elems t).map thirdT else []
def ofT (f : Str → Th → List Th) : Th → List Th
  | .tup ts => (((t_STATEMENTS.lookup (fw (.tup ts))).getD []).zip (ts.drop 1)).flatMap fun p => f p.1 p.2
  | _ => []
/-- gives a list -/
def SpOf (K : PySem.W.Frag) (D : Th → Prop) (f : Th → List Th) : Sp := fun vs H Q _ => ∃ x t, vs = [x] ∧ Rep K H x t ∧ D t ∧ ∀ p H' vs', H p = none → Ex H H' → H' p = some (.lst vs') → Reps K H vs' (f t) → Q (.ref p) H'
theorem stmt_parts {t : Th} (h : stmtB t = true) : ∃ w l ts, t = .tup (.str w :: ts) ∧ fw t = w ∧ t_STATEMENTS.lookup w = some l ∧ ts.length = l.length ∧ ∀ (i : Nat) (k : Str) (u : Th), l[i]? = some k → ts[i]? = some u → partB (exprB 5) k u = true := by
  obtain ⟨l, ts, hl, rfl, hlen, hp⟩ := parts_some (Bool.and_eq_true_iff.mp h).1
  obtain ⟨w, us, e, hw⟩ := fw_tup rfl hl
  cases e
  rw [hw] at hl
  exact ⟨w, l, us, rfl, hw, hl, by simpa using hlen, fun i k u hk hu => hp i k u hk (by simpa using hu)⟩
theorem tab_len {w : Str} {l : List Str} (h : t_STATEMENTS.lookup w = some l) : l.length ≤ 10 := by
  have m := List.all_eq_true.mp tab_s _ (lookup_mem h)
  simp only [Bool.and_eq_true, decide_eq_true_eq] at m
  exact m.1.1.1
theorem ev_kix2 {s : Str} {l : List Str} (z : Cz w K mg) (h1 : Ev ta σ H (.ref (He.ga K "STATEMENTS"))) (h2 : Ev tb σ H (.str s)) (hl : t_STATEMENTS.lookup s = some l) : Ev (tOp (rIxD K w) ta tb) σ H (.ref (atK "STATEMENTS" s K)) := by
  obtain ⟨es, n, D⟩ := z.dict_STATEMENTS
  refine look_kix D (kvs := k_STATEMENTS K) (z.look_STATEMENTS _) ?_ h1 h2
  have e : (k_STATEMENTS K).lookup s = (t_STATEMENTS.lookup s).map fun _ => V.ref (atK "STATEMENTS" s K) := lookup_map (fun k _ => V.ref (atK "STATEMENTS" k K)) t_STATEMENTS s
  rw [e, hl]
  rfl
theorem f_expressions_of (z : Cz w K mg) : Cl P w K mg base 1 "expressions_of" (SpOf K (fun t => Adm t ∧ stmtB t = true) (ofT exOf1)) := by
  refine cal_of (k := 0) z.fn_expressions_of z.glo_expressions_of K0.c_expressions_of (fun vs H Q E h => ?_) (fun cdv A outer s H vs Q _ hr h => ?_)
  · obtain ⟨x, t, rfl, _⟩ := h
    rfl
  · obtain ⟨x, t, rfl, r, ⟨ad, hs⟩, k⟩ := h
    refine ⟨_, (pss_cons (ps_set (i := 1) K0.c_expressions_of.nd rfl (.inl rfl) (pe_lst pa_nil))
      (pss_cons (ps_for PassesOwn.never rfl (pi_zipA (by rfl) z.free_zip (pa_cons (pe_ix (show IxR _ (rIxD K w) from ix_kdict) (pe_gr z.glo_STATEMENTS) (pe_ix (show IxR _ (rIxT K) from ix_tup) (pv 0) pe_int (fun _ _ => rfl)) (fun _ _ => rfl)) (pa_cons (pe_slice (show SlR _ (rSlA K) from sl_tupA) (pv 0) (po_some pe_int) po_none) pa_nil))) (show PG _ _ (gTup K 2 (gCons (gName 2) (gCons (gName 3) gNil))) from by refine pg_tup rfl (pgs_cons ?g0 (pgs_cons ?g1 pgs_nil)); (case g0 => exact (pg_name (i := 2) K0.c_expressions_of.nd rfl (.inl rfl))); (case g1 => exact (pg_name (i := 3) K0.c_expressions_of.nd rfl (.inl rfl)))) (pss_one (ps_if (pt_cmpR op_eq (pv 2) pe_str (nomark _)) (pss_one (ps_expr (pe_bm PySem.F.plainAttrs_list PySem.F.slot_list_extend PySem.F.type_list_extend mt_extend (pv 1) (pa_cons (pv 3) pa_nil)))) (pss_one (ps_if (PW.pt (pw_or (pt_cmpR op_eq (pv 2) pe_str (nomark _)) (pw_or1 (PW.pt (pw_and (pt_cmpR op_eq (pv 2) pe_str (nomark _)) (pw_and1 (pt_cmpR op_notN (pv 3) pe_non (nomark _)))))))) (pss_one (ps_expr (pe_bm PySem.F.plainAttrs_list PySem.F.slot_list_append PySem.F.type_list_append mt_append (pv 1) (pa_cons (pv 3) pa_nil)))) pss_nil)))))
      (pss_one (ps_ret (pv 1))))), ?_⟩
    obtain ⟨w0, l, ts, rfl, hw, hl, hlen, hp⟩ := stmt_parts hs
    cases r with
    | tup h rs =>
      rename_i a vs
      have hvl := rs.length
      obtain ⟨v0, hv0, rv0⟩ := rs.get' (i := 0) (t := .str w0) rfl
      cases rv0
      refine q_asgL (el_lst ea_nil (by decide)) fun o H1 ho e1 h1 => ?_
      show tFor _ _ _ _ _ _
      refine s_gather (H := H1) (Hb := H) (l := l) (ys := vs.drop 1) (us := ts) (o := o) exOf1 (fun σ' => σ'[0]? = some (some (.ref a)) ∧ σ'[1]? = some (some (.ref o)) ∧ σ'.length = 4) (ev_kix2 z ev_c (ev_ixT (i := 0) (ev_var rfl) (ex_t e1 h) hv0) hl) (z.vals_STATEMENTS (lookup_mem hl) _)
        (eu_tail (ev_var rfl) (ex_t e1 h) (by rw [hvl, List.length_cons]; omega)) (by rw [List.length_drop, hvl, List.length_cons, hlen]; rfl) (rs.drop 1) e1 ho h1 ⟨rfl, rfl, rfl⟩ ?_ ?_ ?_ ?_
      · intro i k u hk hu
        have au := ad.tup.2.2 (i + 1) u hu
        unfold exOf1
        split
        · cases u with
          | lst q => exact au.lst.1
          | _ => exact Nat.zero_le _
        · split <;> simp
      · rintro i k u y σ' H' acc hk hu ru ⟨s0, s1, s2⟩ eb hacc hal hi D' kk
        have hi10 := tab_len hl
        have s1' : ((σ'.set 2 (some (.str k))).set 3 (some y))[1]? = some (some (.ref o)) := by
          rw [List.getElem?_set_ne (by decide), List.getElem?_set_ne (by decide)]
          exact s1
        have s2' : ((σ'.set 2 (some (.str k))).set 3 (some y))[2]? = some (some (.str k)) := by
          rw [List.getElem?_set_ne (by decide), List.getElem?_set_self (by omega)]
        have s3' : ((σ'.set 2 (some (.str k))).set 3 (some y))[3]? = some (some y) := by
          rw [List.getElem?_set_self (by rw [List.length_set]; omega)]
        have hpu := hp i k u hk hu
        refine s_if (b := decide (k = "arguments")) (et_test (ev_op (ev_var s2') ev_c rv_sEq)) (fun hb H2 e2 => ?_) (fun hb H2 e2 => ?_)
        · have hk' : k = "arguments" := of_decide_eq_true hb
          subst hk'
          have hu2 : exprsB (exprB 5) 3 u = true := hpu
          cases ru with
          | lst hL rl =>
            rename_i bb zs us
            have hzz : us.length ≤ 3 := of_decide_eq_true (Bool.and_eq_true_iff.mp (show (decide (us.length ≤ 3) && us.all (exprB 5)) = true from hu2)).1
            have hz := rl.length
            refine s_ext (e2 _ _ hacc) (ev_var s1') (ev_var s3') (e2 _ _ (eb _ _ hL)) (by omega) fun H3 e3 => ?_
            exact kk zs _ rl (ExO.of (e2.trans e3)).upd upd_same
          | _ => cases hu2
        · have n1 : ¬ k = "arguments" := of_decide_eq_false hb
          refine s_when (b := decide (k = "expression") || (decide (k = "perhaps an expression") && !isNonT u)) (et_or (et_test (ev_op (ev_var s2') ev_c rv_sEq)) fun _ => et_and (et_test (ev_op (ev_var s2') ev_c rv_sEq)) fun _ => et_is (et_test (ev_op (ev_var s3') ev_c rv_notN)) (by rw [rep_non ru])) (fun hb2 H3 e3 => ?_) (fun hb2 H3 e3 => ?_)
          · have e9 : exOf1 k u = [u] := by
              unfold exOf1
              rw [if_neg n1, if_pos ?_]
              simpa using hb2
            refine s_app ((e2.trans e3) _ _ hacc) (ev_var s1') (ev_var s3') (by omega) fun H4 e4 => ?_
            refine kk [y] _ (by rw [e9]; exact .cons ru .nil) (ExO.of ((e2.trans e3).trans e4)).upd upd_same
          · have e9 : exOf1 k u = [] := by
              unfold exOf1
              rw [if_neg n1, if_neg ?_]
              simpa using hb2
            refine kk [] _ (by rw [e9]; exact .nil) (ExO.of (e2.trans e3)) ?_
            rw [List.append_nil]
            exact (e2.trans e3) _ _ hacc
      · rintro σ' a1 b1 ⟨s0, s1, s2⟩
        refine ⟨?_, ?_, ?_⟩
        · rw [List.getElem?_set_ne (by decide), List.getElem?_set_ne (by decide)]
          exact s0
        · rw [List.getElem?_set_ne (by decide), List.getElem?_set_ne (by decide)]
          exact s1
        · rw [List.length_set, List.length_set]
          exact s2
      · rintro σ' H' ws ⟨s0, s1, s2⟩ eb hw9 rr
        refine s_ret (ev_var s1) fun H2 e2 => k o H2 ws ho (eb.trans e2) (e2 _ _ hw9) ?_
        show Reps K H ws ((((t_STATEMENTS.lookup (fw (.tup (.str w0 :: ts)))).getD []).zip ts).flatMap _)
        rw [hw, hl]
        exact rr
    | _ => cases hs
end
end K0
/-! ## K0L -/
set_option Elab.async false
set_option linter.all false
set_option maxRecDepth 100000
set_option maxHeartbeats 4000000
namespace K0
open PySem PySem.Spec PyProof.Rows L2 Evl RZ KB
/-! a walk over a list or a tuple -/
def iOr (a b : TI) : TI := fun σ H R => a σ H R ∨ b σ H R
theorem pi_or {X : Cx} {tg e : Expr} {a b : TI} (h1 : PI X tg e a) (h2 : PI X tg e b) : PI X tg e (iOr a b) := ⟨fun pins s σ H R I h => h.elim (h1.run pins s σ H R I) (h2.run pins s σ H R I)⟩
theorem EvI.inl {a b : TI} {σ : L2.St} {H : Hp} {J : It} (h : EvI a σ H J) : EvI (iOr a b) σ H J := fun H1 e R q => .inl (h H1 e R q)
theorem EvI.inr {a b : TI} {σ : L2.St} {H : Hp} {J : It} (h : EvI b σ H J) : EvI (iOr a b) σ H J := fun H1 e R q => .inr (h H1 e R q)
section
variable {P : Program} {w : World} {K : PySem.W.Frag} {mg : Str → Option Value} {base : Heap} {σ : L2.St} {H H' : Hp} {ta tb tc td te tl : TE} {x y kv : V} {X0 : XK} {tu : TS} {D : Ends}
/-- [te for x in list or tuple] -/
theorem el_compA {a : Addr} {xs ys : List V} {j : Nat} {vs : List Nat} (h : Ev tl σ H (.ref a)) (hx : SqL K H a xs ∨ SqT K H a xs) (hl : ys.length = xs.length) (hz : xs.length ≤ 50000) (hw : ∀ x, wipe ((wipe σ vs).set j (some x)) vs = wipe σ vs)
    (he : ∀ (i : Nat) (x y : V) (H1 : Hp), Ex H H1 → xs[i]? = some x → ys[i]? = some y → Ev te ((wipe σ vs).set j (some x)) H1 y) : EvL (tLc (iOr (iList K tl) (iTup K tl)) (gName j) tYes te vs) σ H ys := by
  rcases hx with hx | hx
  · exact el_lcW ys (EvI.inl (ei_list h hx)) walk_list (fun H' e => ex_l e hx) hl hz fun i x y H1 H2 e hy hy' => by
      obtain ⟨rfl, hx'⟩ := hy
      exact ⟨Ex.refl _, fun Qc k => k _ _ (hw x) (Ex.refl _) (he i x y H2 e hx' hy')⟩
  · exact el_lcW ys (EvI.inr (ei_tup h hx)) walk_tup (fun H' e => ex_t e hx) hl hz fun i x y H1 H2 e hy hy' => by
      obtain ⟨rfl, hx'⟩ := hy
      exact ⟨Ex.refl _, fun Qc k => k _ _ (hw x) (Ex.refl _) (he i x y H2 e hx' hy')⟩
/-- isinstance(x, (list, tuple)) -/
theorem ev_isLT {t : Th} (h : Ev ta σ H x) (r : Rep K H x t) : Ev (tCB (rIsiT K) (tCons ta (tCons (tTup (tCons (tC (.ty "list")) (tCons (tC (.ty "tuple")) tNil))) tNil))) σ H (.bl (isLst t || isTup t)) := fun H1 e Q q => by
  refine h H1 e _ fun H2 e2 => ?_
  refine eu_tup (σ := σ) (H := H2) (ea_cons ev_c (ea_cons ev_c ea_nil)) (by decide) H2 (Ex.refl H2) _ fun p H3 hp e3 h3 => ?_
  refine ⟨x, p, [.ty "list", .ty "tuple"], _, [.type "list", .type "tuple"], isLst t || isTup t, rfl, h3, .cons (.ty _) (.cons (.ty _) .nil), (r.mono ((e.trans e2).trans e3)).tyx, ?_, q H3 (e2.trans e3)⟩
  refine kitAny_cons (kit_ty (kit_th "list" tys_list t)) (fun hb => ?_) (fun hb => ?_)
  · refine kitAny_cons (kit_ty (kit_th "tuple" tys_tuple t)) (fun hb2 => ?_) (fun hb2 => ?_)
    · rw [isB_list] at hb
      rw [isB_tuple] at hb2
      rw [hb, hb2]
      rfl
    · rw [isB_tuple] at hb2
      rw [hb2, Bool.or_true]
  · rw [isB_list] at hb
    rw [hb, Bool.true_or]
mutual
def aboveB : Th → Bool
  | .lst ts => aboveL ts
  | .tup ts => decide (fw (.tup ts) = "above") || aboveL ts
  | _ => false
def aboveL : List Th → Bool
  | [] => false
  | t :: ts => aboveB t || aboveL ts
end
mutual
def dpT : Th → Nat
  | .lst ts => dpL ts + 1
  | .tup ts => dpL ts + 1
  | _ => 0
def dpL : List Th → Nat
  | [] => 0
  | t :: ts => max (dpT t) (dpL ts)
end
theorem aboveL_map : ∀ ts : List Th, aboveL ts = (ts.map aboveB).any id
  | [] => rfl
  | t :: ts => by
    show (aboveB t || aboveL ts) = _
    rw [aboveL_map ts]
    rfl
theorem dpL_get : ∀ {ts : List Th} {i : Nat} {t : Th}, ts[i]? = some t → dpT t ≤ dpL ts
  | [], _, _, h => by simp at h
  | t :: ts, 0, u, h => by
    simp at h
    subst h
    exact Nat.le_max_left _ _
  | t :: ts, i + 1, u, h => Nat.le_trans (dpL_get (ts := ts) (i := i) (by simpa using h)) (Nat.le_max_right _ _)
theorem f_has_above (z : Cz w K mg) : ∀ d : Nat, Cl P w K mg base (d + 1) "has_above" (P1 K (fun t => Adm t ∧ dpT t < d) aboveB)
  | 0 => by
    refine cal_of (k := 0) z.fn_has_above z.glo_has_above K0.c_has_above (fun vs H Q E h => ?_) (fun cdv A outer s H vs Q _ hr h => ?_)
    · obtain ⟨_, ⟨x, t, rfl, _⟩, _⟩ := h
      rfl
    · obtain ⟨_, ⟨x, t, rfl, _, h9, _⟩, _⟩ := h
      exact absurd h9.2 (Nat.not_lt_zero _)
  | d + 1 => by
    have c_has_above := f_has_above z d
    have c_first_word := f_first_word (P := P) (base := base) z
    refine cal_of (k := d + 1) z.fn_has_above z.glo_has_above K0.c_has_above (fun vs H Q E h => ?_) (fun cdv A outer s H vs Q _ hr h => ?_)
    · obtain ⟨_, ⟨x, t, rfl, _⟩, _⟩ := h
      rfl
    · obtain ⟨_, ⟨x, t, rfl, r, ⟨ad, hd⟩, rfl⟩, k⟩ := h
      refine ⟨_, (pss_cons (ps_if (pt_cmpR op_eq (pe_c c_first_word hr (by first | decide | omega) (by rfl) (pa_cons (pv 0) pa_nil)) pe_str (nomark _)) (pss_one (ps_ret pe_bl)) pss_nil)
        (pss_one (ps_ret (pe_and (pe_callB call_isiT (by rfl) z.free_isinstance boot_isinstance (pa_cons (pv 0) (pa_cons (pe_tup (pa_cons (pe_bty (T := "list") z.free_list (by decide +kernel)) (pa_cons (pe_bty (T := "tuple") z.free_tuple (by decide +kernel)) pa_nil))) pa_nil))) (pe_one (pe_callB (cr_any rfl) (by rfl) z.free_any (by decide +kernel) (pa_cons (pe_lc (own := [("part", 1)]) rfl K0.c_has_above.nd (pi_or (pi_list (pv 0)) (pi_tup (pv 0))) (blkOk_by (N := N_has_above) (sc := defScope s_has_above) (by decide +kernel)) (fun _ _ _ _ _ => (pg_name (i := 1) K0.c_has_above.nd rfl (.inl rfl))) (fun _ _ _ _ _ => pts_nil) (fun _ _ _ _ _ => (pe_c c_has_above hr (by first | decide | omega) (by rfl) (pa_cons (pv 1) pa_nil)))) pa_nil))))))), ?_⟩
      have e0 : ∀ ts : List Th, (∃ a vs, x = .ref a ∧ (SqL K H a vs ∨ SqT K H a vs) ∧ Reps K H vs ts) → ts.length ≤ 1000 → (∀ (i : Nat) (t : Th), ts[i]? = some t → Adm t) → dpL ts < d → (isLst t || isTup t) = true → fw t ≠ "above" → aboveB t = aboveL ts → ∀ H1, Ex H H1 → 
          tRet (tAndV (tCB (rIsiT K) (tCons (tVar 0) (tCons (tTup (tCons (tC (.ty "list")) (tCons (tC (.ty "tuple")) tNil))) tNil))) (tCB (rAny K) (tCons (tLc (iOr (iList K (tVar 0)) (iTup K (tVar 0))) (gName 1) tYes (tCall (P1 K (fun t => Adm t ∧ dpT t < d) aboveB) [] E0 (tCons (tVar 1) tNil)) [1]) tNil))) { nx := fun _ H' => Q .non H', rt := Q } (start N_has_above [x]) H1 := by
        rintro ts ⟨a, vs, rfl, hsq, rs⟩ hz had hdl hi hf hab H1 e
        rw [hab, aboveL_map] at k
        refine s_ret (ev_is (ev_andV (ev_isLT (ev_var rfl) (r.mono e)) fun _ => ev_any (bs := ts.map aboveB) (el_compA (ev_var rfl) (hsq.imp (ex_l e) (ex_t e)) (by rw [List.length_map, List.length_map, rs.length]) (by have := rs.length; omega) (fun x => rfl) fun i x y H2 e2 hx hy => ?_)) (by rw [hi, Bool.true_and])) fun H2 e2 => k H2 (e.trans e2)
        obtain ⟨t, ht, rt⟩ := (rs.mono (e.trans e2)).get hx
        have hy' : y = .bl (aboveB t) := by
          rw [List.getElem?_map, List.getElem?_map, ht] at hy
          exact (Option.some.inj hy).symm
        rw [hy']
        exact ev_p1 (ev_var rfl) rt ⟨had i t ht, Nat.lt_of_le_of_lt (dpL_get ht) hdl⟩
      refine q_when (b := decide (fw t = "above")) (et_test (ev_op (ev_fw (ev_var rfl) r) ev_c rv_sEq)) (fun hb H1 e => s_ret ev_c fun H2 e2 => ?_) (fun hb H1 e => ?_)
      · have q := k H2 (e.trans e2)
        have h2 : aboveB t = true := by
          cases t with
          | tup ts =>
            show (decide (fw (.tup ts) = "above") || aboveL ts) = true
            rw [hb, Bool.true_or]
          | _ => exact absurd (show (("" : Str) = "above") from of_decide_eq_true hb) (by decide)
        rw [h2] at q
        exact q
      · have hf : fw t ≠ "above" := of_decide_eq_false hb
        cases t with
        | lst ts =>
          cases r with
          | lst hL rs => exact e0 ts ⟨_, _, rfl, .inl (sq_of hL), rs⟩ ad.lst.1 ad.lst.2 (Nat.lt_of_succ_lt_succ hd) rfl hf rfl H1 e
        | tup ts =>
          cases r with
          | tup hT rs => exact e0 ts ⟨_, _, rfl, .inr hT, rs⟩ ad.tup.1 ad.tup.2.2 (Nat.lt_of_succ_lt_succ hd) rfl hf (by show (decide (fw (.tup ts) = "above") || aboveL ts) = _; rw [hb, Bool.false_or]) H1 e
        | _ => exact s_ret (ev_is (ev_andV (b := false) (ev_isLT (ev_var rfl) (r.mono e)) fun hh => nomatch hh) rfl) fun H2 e2 => k H2 (e.trans e2)
/-! new things -/
mutual
inductive RepN (K : PySem.W.Frag) (H0 H : Hp) : V → Th → Prop
  | non : RepN K H0 H .non .non
  | bl (b : Bool) : RepN K H0 H (.bl b) (.bl b)
  | int (i : Int) : RepN K H0 H (.int i) (.int i)
  | str (x : Str) : RepN K H0 H (.str x) (.str x)
  | lst {a : Addr} {vs : List V} {ts : List Th} : H0 a = none → H a = some (.lst vs) → RepsN K H0 H vs ts → RepN K H0 H (.ref a) (.lst ts)
  | tup {a : Addr} {vs : List V} {ts : List Th} : SqT K H a vs → RepsN K H0 H vs ts → RepN K H0 H (.ref a) (.tup ts)
  | dic {a : Addr} {kvs : List (Key × V)} : H a = some (.dK kvs) → RepN K H0 H (.ref a) .dic
inductive RepsN (K : PySem.W.Frag) (H0 H : Hp) : List V → List Th → Prop
  | nil : RepsN K H0 H [] []
  | cons {v : V} {vs : List V} {t : Th} {ts : List Th} : RepN K H0 H v t → RepsN K H0 H vs ts → RepsN K H0 H (v :: vs) (t :: ts)
end
/-- what stands stands -/
def Dm (H H' : Hp) : Prop := ∀ a, H' a = none → H a = none
theorem Dm.of (e : Ex H H') : Dm H H' := fun a h => fresh_back e h
mutual
theorem RepN.rep {H0 : Hp} : ∀ {v : V} {t : Th}, RepN K H0 H v t → Rep K H v t
  | _, _, .non => .non
  | _, _, .bl b => .bl b
  | _, _, .int i => .int i
  | _, _, .str x => .str x
  | _, _, .lst _ h r => .lst h (RepsN.rep r)
  | _, _, .tup h r => .tup h (RepsN.rep r)
  | _, _, .dic h => .dic h
theorem RepsN.rep {H0 : Hp} : ∀ {vs : List V} {ts : List Th}, RepsN K H0 H vs ts → Reps K H vs ts
  | _, _, .nil => .nil
  | _, _, .cons h r => .cons (RepN.rep h) (RepsN.rep r)
end
mutual
theorem RepN.base {H0 H1 : Hp} (d : Dm H1 H0) : ∀ {v : V} {t : Th}, RepN K H0 H v t → RepN K H1 H v t
  | _, _, .non => .non
  | _, _, .bl b => .bl b
  | _, _, .int i => .int i
  | _, _, .str x => .str x
  | _, _, .lst h0 h r => .lst (d _ h0) h (RepsN.base d r)
  | _, _, .tup h r => .tup h (RepsN.base d r)
  | _, _, .dic h => .dic h
theorem RepsN.base {H0 H1 : Hp} (d : Dm H1 H0) : ∀ {vs : List V} {ts : List Th}, RepsN K H0 H vs ts → RepsN K H1 H vs ts
  | _, _, .nil => .nil
  | _, _, .cons h r => .cons (RepN.base d h) (RepsN.base d r)
end
mutual
theorem RepN.exo {H0 : Hp} {o : Addr} {acc : List V} (h0 : H0 o ≠ none) (ho : H o = some (.lst acc)) (e : ExO o H H') : ∀ {v : V} {t : Th}, RepN K H0 H v t → RepN K H0 H' v t
  | _, _, .non => .non
  | _, _, .bl b => .bl b
  | _, _, .int i => .int i
  | _, _, .str x => .str x
  | _, _, .lst n h r => .lst n (e _ _ (fun q => h0 (q ▸ n)) h) (RepsN.exo h0 ho e r)
  | _, _, .tup h r => .tup (e.sqt ho h) (RepsN.exo h0 ho e r)
  | _, _, .dic h => .dic (e _ _ (fun q => by rw [q, ho] at h; cases h) h)
theorem RepsN.exo {H0 : Hp} {o : Addr} {acc : List V} (h0 : H0 o ≠ none) (ho : H o = some (.lst acc)) (e : ExO o H H') : ∀ {vs : List V} {ts : List Th}, RepsN K H0 H vs ts → RepsN K H0 H' vs ts
  | _, _, .nil => .nil
  | _, _, .cons h r => .cons (RepN.exo h0 ho e h) (RepsN.exo h0 ho e r)
end
mutual
theorem RepN.mono {H0 : Hp} (e : Ex H H') : ∀ {v : V} {t : Th}, RepN K H0 H v t → RepN K H0 H' v t
  | _, _, .non => .non
  | _, _, .bl b => .bl b
  | _, _, .int i => .int i
  | _, _, .str x => .str x
  | _, _, .lst n h r => .lst n (e _ _ h) (RepsN.mono e r)
  | _, _, .tup h r => .tup (ex_t e h) (RepsN.mono e r)
  | _, _, .dic h => .dic (e _ _ h)
theorem RepsN.mono {H0 : Hp} (e : Ex H H') : ∀ {vs : List V} {ts : List Th}, RepsN K H0 H vs ts → RepsN K H0 H' vs ts
  | _, _, .nil => .nil
  | _, _, .cons h r => .cons (RepN.mono e h) (RepsN.mono e r)
end
theorem RepsN.snoc {H0 : Hp} : ∀ {vs : List V} {ts : List Th} {v : V} {t : Th}, RepsN K H0 H vs ts → RepN K H0 H v t → RepsN K H0 H (vs ++ [v]) (ts ++ [t])
  | _, _, _, _, .nil, h => .cons h .nil
  | _, _, _, _, .cons a r, h => .cons a (RepsN.snoc r h)
/-- a comprehension whose items are new things -/
theorem el_new {wi : TI} {J : It} {G : Hp → Prop} {xs : List V} {ts : List Th} {j : Nat} {vs : List Nat} (hi : EvI wi σ H J) (wk : Walk J xs.length G (YAt xs)) (hG : ∀ H', Ex H H' → G H') (hl : ts.length = xs.length) (hz : xs.length ≤ 50000) (hw : ∀ x, wipe ((wipe σ vs).set j (some x)) vs = wipe σ vs)
    (he : ∀ (i : Nat) (x : V) (t : Th) (H1 : Hp), Ex H H1 → xs[i]? = some x → ts[i]? = some t → ∀ Q : VK, (∀ v H2, Ex H1 H2 → RepN K H1 H2 v t → Q v H2) → te ((wipe σ vs).set j (some x)) H1 Q) :
    ∀ H0, Ex H H0 → ∀ Q : VK, (∀ p H1 ys, H0 p = none → Ex H0 H1 → H1 p = some (.lst ys) → RepsN K H0 H1 ys ts → Q (.ref p) H1) → tLc wi (gName j) tYes te vs σ H0 Q := fun H0 e Q q => hi H0 e _ fun H1 e1 Dl hD => by
  refine lc_it wk (fun i H' => Ex H1 H' ∧ Dm (upd H1 Dl (.lst [])) H' ∧ ∃ ys, H' Dl = some (.lst ys) ∧ RepsN K (upd H1 Dl (.lst [])) H' ys (ts.take i)) ⟨Ex.new hD, fun a h => h, [], upd_same, by rw [List.take_zero]; exact .nil⟩ (fun i H' _ p => hG H' ((e.trans e1).trans p.1)) ?_ (fun H' p => ?_)
  · rintro i x H2 H3 hlt ⟨p1, p2, ys, p3, p4⟩ ⟨rfl, hx⟩
    obtain ⟨t, ht⟩ : ∃ t, ts[i]? = some t := ⟨ts[i]'(by omega), by simp⟩
    refine ⟨hw x, ?_⟩
    show te _ H3 _
    refine he i x t H3 ((e.trans e1).trans p1) hx ht _ fun v H4 e4 rv => ⟨ys, e4 _ _ p3, sz_lt ?_, Ex.mut (p1.trans e4) hD, ?_, ys ++ [v], upd_same, ?_⟩
    · have h1 := p4.rep.length
      rw [List.length_take] at h1
      omega
    · intro a h
      by_cases ea : a = Dl
      · rw [ea, upd_same] at h
        cases h
      · rw [upd_ne ea] at h
        exact p2 a (fresh_back e4 h)
    · rw [take_more ht]
      have n0 : (upd H1 Dl (.lst [])) Dl ≠ none := by
        rw [upd_same]
        exact fun q => nomatch q
      have d4 : Dm (upd H1 Dl (.lst [])) H3 := p2
      refine RepsN.snoc ?_ ?_
      · exact (p4.mono e4).exo n0 (e4 _ _ p3) (ExO.upd (ExO.of (Ex.refl _)))
      · exact (rv.base d4).exo n0 (e4 _ _ p3) (ExO.upd (ExO.of (Ex.refl _)))
  · obtain ⟨p1, p2, ys, p3, p4⟩ := p
    refine q Dl H' ys (fresh_back e1 hD) (e1.trans p1) p3 ?_
    rw [← hl, List.take_length] at p4
    exact p4.base (Dm.of (e1.trans (Ex.new hD)))
/-- a copy -/
def SpFr (K : PySem.W.Frag) (d : Nat) : Sp := fun vs H Q _ => ∃ x t, vs = [x] ∧ Rep K H x t ∧ Adm t ∧ dpT t < d ∧ ∀ v H', Ex H H' → RepN K H H' v t → Q v H'
theorem f_fresh (z : Cz w K mg) : ∀ d : Nat, Cl P w K mg base (d + 1) "fresh" (SpFr K d)
  | 0 => by
    refine cal_of (k := 0) z.fn_fresh z.glo_fresh K0.c_fresh (fun vs H Q E h => ?_) (fun cdv A outer s H vs Q _ hr h => ?_)
    · obtain ⟨x, t, rfl, _⟩ := h
      rfl
    · obtain ⟨x, t, rfl, _, _, h9, _⟩ := h
      exact absurd h9 (Nat.not_lt_zero _)
  | d + 1 => by
    have c_fresh := f_fresh z d
    refine cal_of (k := d + 1) z.fn_fresh z.glo_fresh K0.c_fresh (fun vs H Q E h => ?_) (fun cdv A outer s H vs Q _ hr h => ?_)
    · obtain ⟨x, t, rfl, _⟩ := h
      rfl
    · obtain ⟨x, t, rfl, r, ad, hd, k⟩ := h
      refine ⟨_, (pss_cons (ps_if (pt_val (pe_callB call_isi (by rfl) z.free_isinstance boot_isinstance (pa_cons (pv 0) (pa_cons (pe_bty (T := "list") z.free_list (by decide +kernel)) pa_nil)))) (pss_one (ps_ret (pe_lc (own := [("part", 1)]) rfl K0.c_fresh.nd (pi_list (pv 0)) (blkOk_by (N := N_fresh) (sc := defScope s_fresh) (by decide +kernel)) (fun _ _ _ _ _ => (pg_name (i := 1) K0.c_fresh.nd rfl (.inl rfl))) (fun _ _ _ _ _ => pts_nil) (fun _ _ _ _ _ => (pe_c c_fresh hr (by first | decide | omega) (by rfl) (pa_cons (pv 1) pa_nil)))))) pss_nil)
      (pss_cons (ps_if (pt_val (pe_callB call_isi (by rfl) z.free_isinstance boot_isinstance (pa_cons (pv 0) (pa_cons (pe_bty (T := "tuple") z.free_tuple (by decide +kernel)) pa_nil)))) (pss_one (ps_ret (pe_callTy call_tuple_of (by rfl) z.free_tuple (by decide +kernel) (pa_cons (pe_lc (own := [("part", 1)]) rfl K0.c_fresh.nd (pi_tup (pv 0)) (blkOk_by (N := N_fresh) (sc := defScope s_fresh) (by decide +kernel)) (fun _ _ _ _ _ => (pg_name (i := 1) K0.c_fresh.nd rfl (.inl rfl))) (fun _ _ _ _ _ => pts_nil) (fun _ _ _ _ _ => (pe_c c_fresh hr (by first | decide | omega) (by rfl) (pa_cons (pv 1) pa_nil)))) pa_nil)))) pss_nil)
      (pss_one (ps_ret (pv 0))))), ?_⟩
      have call : ∀ {u : V} {s : Th} {σ' : L2.St} {H1 : Hp}, σ'[1]? = some (some u) → Rep K H1 u s → Adm s → dpT s < d → ∀ Q : VK, (∀ v H2, Ex H1 H2 → RepN K H1 H2 v s → Q v H2) → tCall (SpFr K d) [] E0 (tCons (tVar 1) tNil) σ' H1 Q := fun {u s σ' H1} hv ru au du Q q =>
        ea_cons (ev_var hv) ea_nil H1 (Ex.refl H1) _ fun H2 e2 => ⟨u, s, rfl, ru.mono e2, au, du, fun v H3 e3 rv => q v H3 (e2.trans e3) (rv.base (Dm.of e2))⟩
      refine q_when (et_B (ev_isi tys_list (ev_var rfl) r)) (fun hb H1 e => ?_) (fun hb H1 e => ?_)
      · rw [isB_list] at hb
        cases t with
        | lst ts =>
          cases r with
          | lst hL rs =>
            refine el_new (K := K) (ts := ts) (ei_list (ev_var rfl) (sq_of (e _ _ hL))) walk_list (fun H' e2 => sq_of (e2 _ _ (e _ _ hL))) rs.length.symm (by have := ad.lst.1; rw [rs.length]; omega) (fun x => rfl) (fun i x t H2 e2 hx ht => ?_) H1 (Ex.refl H1) _ fun p H2 ys hp e2 h2 ry => k _ H2 (e.trans e2) ((RepN.lst hp h2 ry).base (Dm.of e))
            obtain ⟨t', ht', rt⟩ := (rs.mono (e.trans e2)).get hx
            rw [ht] at ht'
            cases ht'
            exact call rfl rt (ad.lst.2 i t ht) (Nat.lt_of_le_of_lt (dpL_get ht) (Nat.lt_of_succ_lt_succ hd))
        | _ => cases hb
      · refine q_when (et_B (ev_isi tys_tuple (ev_var rfl) (r.mono e))) (fun hb2 H2 e2 => ?_) (fun hb2 H2 e2 => ?_)
        · rw [isB_tuple] at hb2
          cases t with
          | tup ts =>
            cases r with
            | tup hT rs =>
              unfold tRet tCB tCons tNil
              refine el_new (K := K) (ts := ts) (ei_tup (ev_var rfl) (ex_t (e.trans e2) hT)) walk_tup (fun H' e3 => ex_t ((e.trans e2).trans e3) hT) rs.length.symm (by have := ad.tup.1; rw [rs.length]; omega) (fun x => rfl) (fun i x t H3 e3 hx ht => ?_) H2 (Ex.refl H2) _ fun p H3 ys hp e3 h3 ry =>
                ⟨p, ys, rfl, .inl ⟨sq_of h3, fun l hl => k _ _ (((e.trans e2).trans e3).trans (Ex.new hl)) (.tup (st_of upd_same) ((ry.base (Dm.of (e.trans e2))).mono (Ex.new hl)))⟩⟩
              obtain ⟨t', ht', rt⟩ := (rs.mono ((e.trans e2).trans e3)).get hx
              rw [ht] at ht'
              cases ht'
              exact call rfl rt (ad.tup.2.2 i t ht) (Nat.lt_of_le_of_lt (dpL_get ht) (Nat.lt_of_succ_lt_succ hd))
          | _ => cases hb2
        · rw [isB_list] at hb
          rw [isB_tuple] at hb2
          refine s_ret (ev_var rfl) fun H3 e3 => k x H3 ((e.trans e2).trans e3) ?_
          have r3 := r.mono ((e.trans e2).trans e3)
          cases r3 with
          | non => exact .non
          | bl b => exact .bl b
          | int i => exact .int i
          | str s => exact .str s
          | dic h => exact .dic h
          | lst _ _ => cases hb
          | tup _ _ => cases hb2
end
end K0
/-! ## K0M -/
set_option Elab.async false
set_option linter.all false
set_option maxRecDepth 100000
set_option maxHeartbeats 4000000
namespace K0
open PySem PySem.Spec PyProof.Rows L2 Evl RZ KB
section
variable {P : Program} {w : World} {K : PySem.W.Frag} {mg : Str → Option Value} {base : Heap} {σ : L2.St} {H H' : Hp} {ta tb tc td te tl : TE} {x y kv : V} {X0 : XK} {tu : TS} {D : Ends}
theorem part_methods {E : Th → Bool} {t : Th} (h : partB E "methods" t = true) : methodsB t = true := h
theorem thirds : ∀ {vs : List V} {ts : List Th}, Reps K H vs ts → ts.all methodB = true → ∃ zs, zs.length = vs.length ∧ Reps K H zs (ts.map thirdT) ∧ ∀ (i : Nat) (x y : V), vs[i]? = some x → zs[i]? = some y → ∃ a us, x = .ref a ∧ SqT K H a us ∧ us[2]? = some y
  | _, _, .nil, _ => ⟨[], rfl, .nil, fun i x y h => by simp at h⟩
  | _, _, .cons (v := v) (vs := vs) (t := t) (ts := ts) r rs, h => by
    obtain ⟨h1, h2⟩ := Bool.and_eq_true_iff.mp (show (methodB t && ts.all methodB) = true from h)
    obtain ⟨zs, e1, e2, e3⟩ := thirds rs h2
    unfold methodB at h1
    split at h1
    · rename_i n ps b
      cases r with
      | tup hT q =>
        rename_i a us
        obtain ⟨y, hy, ry⟩ := q.get' (i := 2) (t := b) rfl
        refine ⟨y :: zs, by rw [List.length_cons, List.length_cons, e1], .cons ry e2, fun i x' y' hx hy' => ?_⟩
        cases i with
        | zero =>
          cases hx
          cases hy'
          exact ⟨a, us, rfl, hT, hy⟩
        | succ i => exact e3 i x' y' (by simpa using hx) (by simpa using hy')
    · cases h1
theorem f_blocks_of (z : Cz w K mg) : Cl P w K mg base 1 "blocks_of" (SpOf K (fun t => Adm t ∧ stmtB t = true) (ofT blOf1)) := by
  refine cal_of (k := 0) z.fn_blocks_of z.glo_blocks_of K0.c_blocks_of (fun vs H Q E h => ?_) (fun cdv A outer s H vs Q _ hr h => ?_)
  · obtain ⟨x, t, rfl, _⟩ := h
    rfl
  · obtain ⟨x, t, rfl, r, ⟨ad, hs⟩, k⟩ := h
    refine ⟨_, (pss_cons (ps_set (i := 1) K0.c_blocks_of.nd rfl (.inl rfl) (pe_lst pa_nil))
      (pss_cons (ps_for PassesOwn.never rfl (pi_zipA (by rfl) z.free_zip (pa_cons (pe_ix (show IxR _ (rIxD K w) from ix_kdict) (pe_gr z.glo_STATEMENTS) (pe_ix (show IxR _ (rIxT K) from ix_tup) (pv 0) pe_int (fun _ _ => rfl)) (fun _ _ => rfl)) (pa_cons (pe_slice (show SlR _ (rSlA K) from sl_tupA) (pv 0) (po_some pe_int) po_none) pa_nil))) (show PG _ _ (gTup K 2 (gCons (gName 2) (gCons (gName 3) gNil))) from by refine pg_tup rfl (pgs_cons ?g0 (pgs_cons ?g1 pgs_nil)); (case g0 => exact (pg_name (i := 2) K0.c_blocks_of.nd rfl (.inl rfl))); (case g1 => exact (pg_name (i := 3) K0.c_blocks_of.nd rfl (.inl rfl)))) (pss_one (ps_if (pt_cmpR op_eq (pv 2) pe_str (nomark _)) (pss_one (ps_expr (pe_bm PySem.F.plainAttrs_list PySem.F.slot_list_append PySem.F.type_list_append mt_append (pv 1) (pa_cons (pv 3) pa_nil)))) (pss_one (ps_if (pt_cmpR op_eq (pv 2) pe_str (nomark _)) (pss_one (ps_expr (pe_bm PySem.F.plainAttrs_list PySem.F.slot_list_extend PySem.F.type_list_extend mt_extend (pv 1) (pa_cons (pe_lc (own := [("method", 4)]) rfl K0.c_blocks_of.nd (pi_list (pv 3)) (blkOk_by (N := N_blocks_of) (sc := defScope s_blocks_of) (by decide +kernel)) (fun _ _ _ _ _ => (pg_name (i := 4) K0.c_blocks_of.nd rfl (.inl rfl))) (fun _ _ _ _ _ => pts_nil) (fun _ _ _ _ _ => (pe_ix (show IxR _ (rIxT K) from ix_tup) (pv 4) pe_int (fun _ _ => rfl)))) pa_nil)))) pss_nil)))))
      (pss_one (ps_ret (pv 1))))), ?_⟩
    obtain ⟨w0, l, ts, rfl, hw, hl, hlen, hp⟩ := stmt_parts hs
    cases r with
    | tup h rs =>
      rename_i a vs
      have hvl := rs.length
      obtain ⟨v0, hv0, rv0⟩ := rs.get' (i := 0) (t := .str w0) rfl
      cases rv0
      refine q_asgL (el_lst ea_nil (by decide)) fun o H1 ho e1 h1 => ?_
      show tFor _ _ _ _ _ _
      refine s_gather (H := H1) (Hb := H) (l := l) (ys := vs.drop 1) (us := ts) (o := o) blOf1 (fun σ' => σ'[0]? = some (some (.ref a)) ∧ σ'[1]? = some (some (.ref o)) ∧ σ'.length = 5) (ev_kix2 z ev_c (ev_ixT (i := 0) (ev_var rfl) (ex_t e1 h) hv0) hl) (z.vals_STATEMENTS (lookup_mem hl) _)
        (eu_tail (ev_var rfl) (ex_t e1 h) (by rw [hvl, List.length_cons]; omega)) (by rw [List.length_drop, hvl, List.length_cons, hlen]; rfl) (rs.drop 1) e1 ho h1 ⟨rfl, rfl, rfl⟩ ?_ ?_ ?_ ?_
      · intro i k u hk hu
        have au := ad.tup.2.2 (i + 1) u hu
        unfold blOf1
        split
        · simp
        · split
          · rw [List.length_map]
            cases u with
            | lst q => exact au.lst.1
            | _ => exact Nat.zero_le _
          · simp
      · rintro i k u y σ' H' acc hk hu ru ⟨s0, s1, s2⟩ eb hacc hal hi D' kk
        have hi10 := tab_len hl
        have s1' : ((σ'.set 2 (some (.str k))).set 3 (some y))[1]? = some (some (.ref o)) := by
          rw [List.getElem?_set_ne (by decide), List.getElem?_set_ne (by decide)]
          exact s1
        have s2' : ((σ'.set 2 (some (.str k))).set 3 (some y))[2]? = some (some (.str k)) := by
          rw [List.getElem?_set_ne (by decide), List.getElem?_set_self (by omega)]
        have s3' : ((σ'.set 2 (some (.str k))).set 3 (some y))[3]? = some (some y) := by
          rw [List.getElem?_set_self (by rw [List.length_set]; omega)]
        have s4' : ((σ'.set 2 (some (.str k))).set 3 (some y)).length = 5 := by
          rw [List.length_set, List.length_set]
          exact s2
        have hpu := hp i k u hk hu
        refine s_if (b := decide (k = "block")) (et_test (ev_op (ev_var s2') ev_c rv_sEq)) (fun hb H2 e2 => ?_) (fun hb H2 e2 => ?_)
        · have hk' : k = "block" := of_decide_eq_true hb
          subst hk'
          refine s_app (e2 _ _ hacc) (ev_var s1') (ev_var s3') (by omega) fun H4 e4 => ?_
          exact kk [y] _ (.cons ru .nil) (ExO.of (e2.trans e4)).upd upd_same
        · have n1 : ¬ k = "block" := of_decide_eq_false hb
          refine s_when (b := decide (k = "methods")) (et_test (ev_op (ev_var s2') ev_c rv_sEq)) (fun hb2 H3 e3 => ?_) (fun hb2 H3 e3 => ?_)
          · have hk' : k = "methods" := of_decide_eq_true hb2
            subst hk'
            have hm := part_methods hpu
            cases ru with
            | lst hL rl =>
              rename_i bb zs us
              obtain ⟨m1, m2⟩ := Bool.and_eq_true_iff.mp (show (decide (us.length ≤ 4) && (us.all methodB && decide (dc (us.map headOf) = us.length))) = true from hm)
              have hzz : us.length ≤ 4 := of_decide_eq_true m1
              obtain ⟨qs, q1, q2, q3⟩ := thirds rl (Bool.and_eq_true_iff.mp m2).1
              have hz := rl.length
              generalize hσ : (σ'.set 2 (some (.str "methods"))).set 3 (some (.ref bb)) = σ3 at s1' s2' s3' s4' kk
              refine s_extL (zs := qs) ((e2.trans e3) _ _ hacc) (ev_var s1') (el_compL (ev_var s3') (sq_of ((eb.trans (e2.trans e3)) _ _ hL)) q1 (by omega) (fun v => ?_) fun i x' y' H4 e4 hx hy => ?_) (by omega) fun H4 e4 => ?_
              · match σ3, s4' with
                | [a0, a1, a2, a3, a4], _ => rfl
              · obtain ⟨a2, us2, rfl, hT2, hy2⟩ := q3 i x' y' hx hy
                refine ev_ixT (i := 2) (ev_var ?_) (ex_t (eb.trans ((e2.trans e3).trans e4)) hT2) hy2
                match σ3, s4' with
                | [a0, a1, a2, a3, a4], _ => rfl
              · refine kk qs _ ?_ (ExO.of ((e2.trans e3).trans e4)).upd upd_same
                exact q2
            | _ => cases hm
          · have n2 : ¬ k = "methods" := of_decide_eq_false hb2
            have e9 : blOf1 k u = [] := by
              unfold blOf1
              rw [if_neg n1, if_neg n2]
            refine kk [] _ (by rw [e9]; exact .nil) (ExO.of (e2.trans e3)) ?_
            rw [List.append_nil]
            exact (e2.trans e3) _ _ hacc
      · rintro σ' a1 b1 ⟨s0, s1, s2⟩
        refine ⟨?_, ?_, ?_⟩
        · rw [List.getElem?_set_ne (by decide), List.getElem?_set_ne (by decide)]
          exact s0
        · rw [List.getElem?_set_ne (by decide), List.getElem?_set_ne (by decide)]
          exact s1
        · rw [List.length_set, List.length_set]
          exact s2
      · rintro σ' H' ws ⟨s0, s1, s2⟩ eb hw9 rr
        refine s_ret (ev_var s1) fun H2 e2 => k o H2 ws ho (eb.trans e2) (e2 _ _ hw9) ?_
        show Reps K H ws ((((t_STATEMENTS.lookup (fw (.tup (.str w0 :: ts)))).getD []).zip ts).flatMap _)
        rw [hw, hl]
        exact rr
    | _ => cases hs
end
end K0
/-! ## K0N -/
set_option Elab.async false
set_option linter.all false
set_option maxRecDepth 100000
set_option maxHeartbeats 4000000
namespace K0
open PySem PySem.Spec PyProof.Rows L2 Evl RZ KB
/-! a value that is told by a word -/
def EvR (te : TE) (σ : L2.St) (H : Hp) (R : V → Hp → Prop) : Prop := ∀ H1, Ex H H1 → ∀ Q : VK, (∀ v H2, Ex H1 H2 → R v H2 → Q v H2) → te σ H1 Q
/-- a class whose __init__ lets nothing out -/
structure Mkr (P : Program) (w : World) (K : PySem.W.Frag) (mg : Str → Option Value) (base : Heap) (k : Nat) (x : Str) (sp : Sp) : Prop where
  ex : ∃ (f : Addr) (fd : FuncData) (ps : List Str), Mk K (He.ga K x) f ∧ FnOk P w K mg base CX0 k f fd ps sp ∧ mg x = some (.ref (He.ga K x)) ∧ Binds K fd ps []
/-- a method that lets nothing out -/
structure Mt (P : Program) (w : World) (K : PySem.W.Frag) (mg : Str → Option Value) (base : Heap) (k : Nat) (C : Addr) (m : Str) (sp : Sp) : Prop where
  ex : ∃ (f : Addr) (fd : FuncData) (ps : List Str), Meth K C m f ∧ FnOk P w K mg base CX0 k f fd ps sp ∧ Cls K C ∧ Binds K fd ps []
section
variable {P : Program} {w : World} {K : PySem.W.Frag} {mg : Str → Option Value} {base : Heap} {x name qual m : Str} {k : Nat} {sp : Sp} {C : Addr}
theorem mkr_of {params : Arguments} {body : List Stmt} {scope : Scope} {f : Addr} {N ps : List Str} (M : Mk K (He.ga K x) f)
    (F : ∃ fd, FunD K name qual params body scope [] [] f fd ∧ Binds K fd ps []) (g : mg x = some (.ref (He.ga K x))) (S : FnScope N ps scope) (len : ∀ vs H Q E, sp vs H Q E → vs.length = ps.length)
    (hb : ∀ (cdv : Value) (A : Around) (outer : List Env) (s : Shared) (H : Hp) (vs : List V) (Q : VK) (E : XK), Room k (A.deeper (envOfC qual scope s.heap.objs.size f cdv)) → sp vs H Q E →
      ∃ t, PSs (cxOf CX0 P w K mg base N qual scope f cdv A outer s H E).nox body t ∧ t { nx := fun _ H' => Q .non H', rt := Q } (start N vs) H) : Mkr P w K mg base (k + 1) x sp := by
  obtain ⟨fd, F, b⟩ := F
  exact ⟨f, fd, ps, M, F.ok S len fun cdv A outer s H vs Q E hr h => (hb cdv A outer s H vs Q E hr h).imp fun _ q => ⟨PSs.nox q.1, q.2⟩, g, b⟩
theorem mt_of {params : Arguments} {body : List Stmt} {scope : Scope} {f : Addr} {N ps : List Str} (M : Meth K C m f) (c : Cls K C)
    (F : ∃ fd, FunD K name qual params body scope [] [] f fd ∧ Binds K fd ps []) (S : FnScope N ps scope) (len : ∀ vs H Q E, sp vs H Q E → vs.length = ps.length)
    (hb : ∀ (cdv : Value) (A : Around) (outer : List Env) (s : Shared) (H : Hp) (vs : List V) (Q : VK) (E : XK), Room k (A.deeper (envOfC qual scope s.heap.objs.size f cdv)) → sp vs H Q E →
      ∃ t, PSs (cxOf CX0 P w K mg base N qual scope f cdv A outer s H E).nox body t ∧ t { nx := fun _ H' => Q .non H', rt := Q } (start N vs) H) : Mt P w K mg base (k + 1) C m sp := by
  obtain ⟨fd, F, b⟩ := F
  exact ⟨f, fd, ps, M, F.ok S len fun cdv A outer s H vs Q E hr h => (hb cdv A outer s H vs Q E hr h).imp fun _ q => ⟨PSs.nox q.1, q.2⟩, c, b⟩
end
section
variable {X : Cx} {k j : Nat} {x m : Str} {sp : Sp} {p pos apos : Pos} {o e : Expr} {es : List Expr} {t : TA} {ta : TE} {C : Addr}
theorem pe_mkr (c : Mkr X.prog X.w X.K X.mg X.base k x sp) (hr : Room j X.A) (hk : k + 1 ≤ j) (hg : Gl X x) (ha : PA X (e :: es) t)
    (hdb : (x == ("__debug__" : Str)) = false := by decide) (he : starEach (e :: es) X.env = (false, eval e X.env) :: starEach es X.env := by rfl)
    (hpl : (backTo pos (starEach es X.env)).any (·.1) = false := by rfl) : PE X (.Call (.Name x p) (e :: es) [] pos) (tMake (He.ga X.K x) sp [] E0 t) := by
  obtain ⟨f, fd, ps, M, F, hm, b⟩ := c.ex
  exact pe_make M F (hr.mono hk) hg hm b .nil pass0 ha hdb he hpl
theorem pe_mto {pl : Sem Bool} (c : Mt X.prog X.w X.K X.mg X.base k C m sp) (hr : Room j X.A) (hk : k ≤ j) (he : PE X o ta) (ha : PA X (e :: es) t)
    (hst : starEach (e :: es) X.env = (false, eval e X.env) :: starEach es X.env := by rfl) (hpl : (backTo pos (starEach es X.env)).any (·.1) = false := by rfl)
    (ht : eval (.Call (.Attribute o m apos) (e :: es) [] pos) X.env = (do
      let ov ← eval o X.env
      standAt apos.atName
      let (f, first) ← holding [ov] (getMethod ov m pl)
      callWith pos f first (backTo pos (starEach (e :: es) X.env)) (backToKw pos (keywordEach [] X.env))) := by rfl) :
    PE X (.Call (.Attribute o m apos) (e :: es) [] pos) (tMeth C m sp [] E0 ta t) := by
  obtain ⟨f, fd, ps, M, F, c, b⟩ := c.ex
  exact pe_meth he c M F (hr.mono hk) b .nil pass0 ha hst hpl ht
end
section
variable {P : Program} {w : World} {K : PySem.W.Frag} {mg : Str → Option Value} {base : Heap} {σ : L2.St} {H H' : Hp} {ta tb tc td te tl tv : TE} {x y kv : V} {X0 : XK} {tu : TS} {D : Ends} {f : Str} {a C dx : Addr} {fs : List (Str × V)} {R : V → Hp → Prop}
theorem EvR.of (h : Ev te σ H x) : EvR te σ H (fun v _ => v = x) := fun H1 e Q q => h H1 e _ fun H2 e2 => q x H2 e2 rfl
theorem EvR.imp {R' : V → Hp → Prop} (h : EvR te σ H R) (k : ∀ v H1, Ex H H1 → R v H1 → R' v H1) : EvR te σ H R' := fun H1 e Q q => h H1 e _ fun v H2 e2 r => q v H2 e2 (k v H2 (e.trans e2) r)
theorem EvR.mono (e : Ex H H') (h : EvR te σ H R) : EvR te σ H' R := fun H1 e1 Q q => h H1 (e.trans e1) Q q
theorem r_asg {i : Nat} (h : EvR te σ H R) (k : ∀ v H1, Ex H H1 → R v H1 → D.nx (σ.set i (some v)) H1) : tAsg te (gName i) D σ H := h H (Ex.refl H) _ fun v H1 e r => k v H1 e r
theorem r_ret (h : EvR te σ H R) (k : ∀ v H1, Ex H H1 → R v H1 → D.rt v H1) : tRet te D σ H := h H (Ex.refl H) _ k
theorem putF_le (f : Str) (v : V) : ∀ fs : List (Str × V), (putF f v fs).length ≤ fs.length + 1
  | [] => Nat.le_refl _
  | (g, y) :: r => by
    unfold putF
    split
    · simp
    · have := putF_le f v r
      simp only [List.length_cons]
      omega
theorem r_fld (hv : EvR tv σ H R) (ha : Ev ta σ H (.ref a)) (hH : H a = some (.ins C dx fs)) (c : Cls K C) (n : NoAttr K C f) (l : fs.length < 1000) (k : ∀ y H1 H2, Ex H H1 → R y H1 → Ex H1 H2 → D.nx σ (upd H2 a (.ins C dx (putF f y fs)))) : sFld K ta tv f D σ H :=
  hv H (Ex.refl H) _ fun y H1 e r => ha H1 e _ fun H2 e2 => ⟨a, C, dx, fs, rfl, (e.trans e2) _ _ hH, c, n, l, k y H1 H2 e r e2⟩
theorem s_fld (hv : Ev tv σ H y) (ha : Ev ta σ H (.ref a)) (hH : H a = some (.ins C dx fs)) (c : Cls K C) (n : NoAttr K C f) (l : fs.length < 1000) (k : ∀ H1, Ex H H1 → D.nx σ (upd H1 a (.ins C dx (putF f y fs)))) : sFld K ta tv f D σ H :=
  hv H (Ex.refl H) _ fun H1 e => ha H1 e _ fun H2 e2 => ⟨a, C, dx, fs, rfl, (e.trans e2) _ _ hH, c, n, l, k H2 (e.trans e2)⟩
theorem ev_fld {v : V} (h : Ev ta σ H (.ref a)) (hH : H a = some (.ins C dx fs)) (c : Cls K C) (n : NoAttr K C f) (l : fs.lookup f = some v) : Ev (tFld K ta f) σ H v := fun H1 e Q q => h H1 e _ fun H2 e2 => ⟨a, C, dx, fs, v, rfl, (e.trans e2) _ _ hH, c, n, l, q H2 e2⟩
/-! places -/
def plF (d : Int) (r : Str) (l : Bool) : List (Str × V) := [("depth", .int d), ("routine", .str r), ("looping", .bl l)]
def PlaceAt (K : PySem.W.Frag) (H : Hp) (a : Addr) (d : Int) (r : Str) (l : Bool) : Prop := ∃ dx, H a = some (.ins (He.ga K "Place") dx (plF d r l))
theorem PlaceAt.mono {d : Int} {r : Str} {l : Bool} (e : Ex H H') (h : PlaceAt K H a d r l) : PlaceAt K H' a d r l := h.imp fun dx q => e _ _ q
def SpPl (K : PySem.W.Frag) : Sp := fun vs H Q _ => ∃ a dx d r l, vs = [.ref a, .int d, .str r, .bl l] ∧ H a = some (.ins (He.ga K "Place") dx []) ∧ ∀ H', ExO a H H' → H' a = some (.ins (He.ga K "Place") dx (plF d r l)) → Q .non H'
theorem m_Place (z : Cz w K mg) : Mkr P w K mg base 1 "Place" (SpPl K) := by
  refine mkr_of (k := 0) z.mkr_Place z.fn_Place_init z.glo_Place K0.c_Place_init (fun vs H Q E h => ?_) (fun cdv A outer s H vs Q _ hr h => ?_)
  · obtain ⟨a, dx, d, r, l, rfl, _⟩ := h
    rfl
  · obtain ⟨a, dx, d, r, l, rfl, ha, k⟩ := h
    refine ⟨_, (pss_cons (ps_fld (pv 0) (pv 1) rfl)
      (pss_cons (ps_fld (pv 0) (pv 2) rfl)
      (pss_one (ps_fld (pv 0) (pv 3) rfl)))), ?_⟩
    refine s_fld (D := { nx := _, rt := _ }) (ev_var rfl) (ev_var rfl) ha z.cls_Place z.noat_Place_depth (by decide) fun H1 e1 => ?_
    refine s_fld (D := { nx := _, rt := _ }) (ev_var rfl) (ev_var rfl) upd_same z.cls_Place z.noat_Place_routine (by have := putF_le "depth" (.int d) []; simp only [List.length_nil] at this; omega) fun H2 e2 => ?_
    refine s_fld (D := { nx := _, rt := _ }) (ev_var rfl) (ev_var rfl) upd_same z.cls_Place z.noat_Place_looping (by have := putF_le "depth" (.int d) []; have := putF_le "routine" (.str r) (putF "depth" (.int d) []); simp only [List.length_nil] at *; omega) fun H3 e3 => ?_
    refine k _ ?_ upd_same
    exact ((ExO.of e1).upd.trans ((ExO.of e2).upd.trans (ExO.of e3).upd))
/-- a new place -/
theorem er_place {d : Int} {r : Str} {l : Bool} {E : XK} (h1 : Ev ta σ H (.int d)) (h2 : Ev tb σ H (.str r)) (h3 : Ev tc σ H (.bl l)) :
    EvR (tMake (He.ga K "Place") (SpPl K) [] E (tCons ta (tCons tb (tCons tc tNil)))) σ H (fun v H' => ∃ a, v = .ref a ∧ PlaceAt K H' a d r l) := fun H1 e Q q =>
  ea_cons h1 (ea_cons h2 (ea_cons h3 ea_nil)) H1 e _ fun H2 e2 => fun x dx hx hd hne => ⟨x, dx, d, r, l, rfl, upd_same, fun H3 e3 h3 => ⟨rfl, q _ H3 (fun b u hb => by
    have n1 : b ≠ x := fun q => by rw [q] at hb; rw [e2 _ _ hb] at hx; cases hx
    have n2 : b ≠ dx := fun q => by rw [q] at hb; rw [e2 _ _ hb] at hd; cases hd
    refine e3 b u n1 ?_
    rw [upd_ne n1, upd_ne n2]
    exact e2 _ _ hb) ⟨x, rfl, dx, h3⟩⟩⟩
def SpTop (K : PySem.W.Frag) : Sp := fun vs H Q _ => vs = [] ∧ ∀ a H', Ex H H' → PlaceAt K H' a 1 "top" false → Q (.ref a) H'
theorem f_top_place (z : Cz w K mg) : Cl P w K mg base 3 "top_place" (SpTop K) := by
  have m_Place := m_Place (P := P) (base := base) z
  refine cal_of (k := 2) z.fn_top_place z.glo_top_place K0.c_top_place (fun vs H Q E h => ?_) (fun cdv A outer s H vs Q _ hr h => ?_)
  · obtain ⟨rfl, _⟩ := h
    rfl
  · obtain ⟨rfl, k⟩ := h
    refine ⟨_, (pss_one (ps_ret (pe_mkr m_Place hr (by first | decide | omega) (by rfl) (pa_cons pe_int (pa_cons pe_str (pa_cons pe_bl pa_nil)))))), ?_⟩
    exact r_ret (er_place ev_c ev_c ev_c) fun v H1 e ⟨a, hv, hp⟩ => by
      subst hv
      exact k a H1 e hp
def inR (wd r : Str) : Str := if wd = "def" then "def" else if wd = "class" then "method" else r
def inL (wd : Str) (l : Bool) : Bool := if wd = "def" then false else if wd = "class" then false else l || decide (wd = "while")
def SpIn (K : PySem.W.Frag) : Sp := fun vs H Q _ => ∃ a wd d r l, vs = [.ref a, .str wd] ∧ PlaceAt K H a d r l ∧ ∀ b H', Ex H H' → PlaceAt K H' b (d + 1) (inR wd r) (inL wd l) → Q (.ref b) H'
theorem f_inner_place (z : Cz w K mg) : Cl P w K mg base 3 "inner_place" (SpIn K) := by
  have m_Place := m_Place (P := P) (base := base) z
  refine cal_of (k := 2) z.fn_inner_place z.glo_inner_place K0.c_inner_place (fun vs H Q E h => ?_) (fun cdv A outer s H vs Q _ hr h => ?_)
  · obtain ⟨a, wd, d, r, l, rfl, _⟩ := h
    rfl
  · obtain ⟨a, wd, d, r, l, rfl, ⟨dx, hp⟩, k⟩ := h
    refine ⟨_, (pss_cons (ps_if (pt_cmpR op_eq (pv 1) pe_str (nomark _)) (pss_one (ps_ret (pe_mkr m_Place hr (by first | decide | omega) (by rfl) (pa_cons (pe_op op_add (pe_fld (pv 0) rfl) pe_int) (pa_cons pe_str (pa_cons pe_bl pa_nil)))))) pss_nil)
      (pss_cons (ps_if (pt_cmpR op_eq (pv 1) pe_str (nomark _)) (pss_one (ps_ret (pe_mkr m_Place hr (by first | decide | omega) (by rfl) (pa_cons (pe_op op_add (pe_fld (pv 0) rfl) pe_int) (pa_cons pe_str (pa_cons pe_bl pa_nil)))))) pss_nil)
      (pss_one (ps_ret (pe_mkr m_Place hr (by first | decide | omega) (by rfl) (pa_cons (pe_op op_add (pe_fld (pv 0) rfl) pe_int) (pa_cons (pe_fld (pv 0) rfl) (pa_cons (pe_or (pe_fld (pv 0) rfl) (pe_one (pe_cmpR op_eq (pv 1) pe_str (nomark _)))) pa_nil)))))))), ?_⟩
    refine q_when (b := decide (wd = "def")) (et_test (ev_op (ev_var rfl) ev_c rv_sEq)) (fun hb H1 e1 => ?_) (fun hb H1 e1 => ?_)
    · have e9 : wd = "def" := of_decide_eq_true hb
      subst e9
      exact r_ret (er_place (d := d + 1) (ev_op (ev_fld (ev_var rfl) (e1 _ _ hp) z.cls_Place z.noat_Place_depth rfl) ev_c rv_I0) ev_c ev_c) fun v H2 e2 ⟨b, hv, hq⟩ => by
        subst hv
        exact k b H2 (e1.trans e2) hq
    · have n1 : ¬ wd = "def" := of_decide_eq_false hb
      refine q_when (b := decide (wd = "class")) (et_test (ev_op (ev_var rfl) ev_c rv_sEq)) (fun hb H2 e2 => ?_) (fun hb H2 e2 => ?_)
      · have e9 : wd = "class" := of_decide_eq_true hb
        subst e9
        exact r_ret (er_place (d := d + 1) (ev_op (ev_fld (ev_var rfl) ((e1.trans e2) _ _ hp) z.cls_Place z.noat_Place_depth rfl) ev_c rv_I0) ev_c ev_c) fun v H3 e3 ⟨b, hv, hq⟩ => by
          subst hv
          exact k b H3 ((e1.trans e2).trans e3) hq
      · have n2 : ¬ wd = "class" := of_decide_eq_false hb
        refine r_ret (er_place (d := d + 1) (r := r) (l := l || decide (wd = "while")) (ev_op (ev_fld (ev_var rfl) ((e1.trans e2) _ _ hp) z.cls_Place z.noat_Place_depth rfl) ev_c rv_I0) (ev_fld (ev_var rfl) ((e1.trans e2) _ _ hp) z.cls_Place z.noat_Place_routine rfl) (ev_orV (ev_fld (ev_var rfl) ((e1.trans e2) _ _ hp) z.cls_Place z.noat_Place_looping rfl) fun _ => ev_op (ev_var rfl) ev_c rv_sEq)) fun v H3 e3 ⟨b, hv, hq⟩ => ?_
        subst hv
        refine k b H3 ((e1.trans e2).trans e3) ?_
        unfold inR inL
        rw [if_neg n1, if_neg n2, if_neg n1, if_neg n2]
        exact hq
/-! fits -/
def giveT (ts : List Th) : Bool := match ts[1]? with
  | some (Th.str s) => decide (s = "give")
  | _ => false
def fitsB (t : Th) (d : Int) (r : Str) (l : Bool) : Bool :=
  !(decide (d = 8) && decide (0 < (ofT blOf1 t).length)) && (!(decide (fw t = "leave") && !l) && (!(decide (r = "top") && (decide (fw t = "give") || (decide (fw t = "call") && giveT (match t with | .tup ts => ts | _ => [])))) && (decide (r = "method") || !aboveL (ofT exOf1 t))))
def SpFits (K : PySem.W.Frag) (dd : Nat) : Sp := fun vs H Q _ => ∃ x t a d r l, vs = [x, .ref a] ∧ Rep K H x t ∧ Adm t ∧ stmtB t = true ∧ dpL (ofT exOf1 t) < dd ∧ Adm (.lst (ofT exOf1 t)) ∧ PlaceAt K H a d r l ∧ ∀ H', Ex H H' → Q (.bl (fitsB t d r l)) H'
theorem er_of {f : Th → List Th} {D : Th → Prop} {E : XK} {t : Th} (h : Ev ta σ H x) (r : Rep K H x t) (d : D t) : EvR (tCall (SpOf K D f) [] E (tCons ta tNil)) σ H (fun v H' => ∃ p vs, v = .ref p ∧ H p = none ∧ H' p = some (.lst vs) ∧ Reps K H' vs (f t)) := fun H1 e Q q =>
  ea_cons h ea_nil H1 e _ fun H2 e2 => ⟨x, t, rfl, r.mono (e.trans e2), d, fun p H3 vs hp e3 h3 rs => q _ H3 (e2.trans e3) ⟨p, vs, rfl, fresh_back (e.trans e2) hp, h3, rs.mono e3⟩⟩
theorem f_fits (z : Cz w K mg) (dd : Nat) : Cl P w K mg base (dd + 3) "fits" (SpFits K dd) := by
  have c_blocks_of := f_blocks_of (P := P) (base := base) z
  have c_expressions_of := f_expressions_of (P := P) (base := base) z
  have c_has_above := f_has_above (P := P) (base := base) z (dd + 1)
  refine cal_of (k := dd + 2) z.fn_fits z.glo_fits K0.c_fits (fun vs H Q E h => ?_) (fun cdv A outer s H vs Q _ hr h => ?_)
  · obtain ⟨x, t, a, d, r, l, rfl, _⟩ := h
    rfl
  · obtain ⟨x, t, a, d, r, l, rfl, rt, ad, hs, hdd, had, ⟨dx, hp⟩, k⟩ := h
    refine ⟨_, (pss_cons (ps_set (i := 2) K0.c_fits.nd rfl (.inl rfl) (pe_ix (show IxR _ (rIxT K) from ix_tup) (pv 0) pe_int (fun _ _ => rfl)))
      (pss_cons (ps_if (PW.pt (pw_and (pt_cmpR op_eq (pe_fld (pv 1) rfl) (pe_gi z.int_DEEPEST_BLOCK) (nomark _)) (pw_and1 (pt_cmpR op_gt (pe_callB call_len_seq (by rfl) z.free_len PySem.boot_len (pa_cons (pe_c c_blocks_of hr (by first | decide | omega) (by rfl) (pa_cons (pv 0) pa_nil)) pa_nil)) pe_int (nomark _))))) (pss_one (ps_ret pe_bl)) pss_nil)
      (pss_cons (ps_if (PW.pt (pw_and (pt_cmpR op_eq (pv 2) pe_str (nomark _)) (pw_and1 (pt_not (pt_val (pe_fld (pv 1) rfl)))))) (pss_one (ps_ret pe_bl)) pss_nil)
      (pss_cons (ps_if (PW.pt (pw_and (pt_cmpR op_eq (pe_fld (pv 1) rfl) pe_str (nomark _)) (pw_and1 (PW.pt (pw_or (pt_cmpR op_eq (pv 2) pe_str (nomark _)) (pw_or1 (PW.pt (pw_and (pt_cmpR op_eq (pv 2) pe_str (nomark _)) (pw_and1 (pt_cmpR op_eq (pe_ix (show IxR _ (rIxT K) from ix_tup) (pv 0) pe_int (fun _ _ => rfl)) pe_str (nomark _))))))))))) (pss_one (ps_ret pe_bl)) pss_nil)
      (pss_one (ps_ret (pe_or (pe_cmpR op_eq (pe_fld (pv 1) rfl) pe_str (nomark _)) (pe_one (pe_not (pe_c c_has_above hr (by first | decide | omega) (by rfl) (pa_cons (pe_c c_expressions_of hr (by first | decide | omega) (by rfl) (pa_cons (pv 0) pa_nil)) pa_nil))))))))))), ?_⟩
    obtain ⟨w0, ll, ts, rfl, hw, hl, hlen, hpp⟩ := stmt_parts hs
    obtain ⟨v0, rv0, ev0⟩ := ev_item (ta := tVar 0) (σ := [some x, some (.ref a), none]) (ev_var rfl) rt (show (Th.str w0 :: ts)[0]? = some (.str w0) from rfl)
    cases rv0
    refine s_asg (D := { nx := _, rt := _ }) ev0 fun H1 e1 => ?_
    have hp1 := e1 _ _ hp
    have r1 := rt.mono e1
    have lenB : ∀ {σ' : L2.St} {H1 : Hp}, σ'[0]? = some (some x) → Rep K H1 x (.tup (.str w0 :: ts)) → Ev (tCB (rLenS K) (tCons (tCall (SpOf K (fun t => Adm t ∧ stmtB t = true) (ofT blOf1)) [] E0 (tCons (tVar 0) tNil)) tNil)) σ' H1 (.int ((ofT blOf1 (.tup (.str w0 :: ts))).length : Nat)) := fun {σ' H1} hv ru H2 e2 Q q =>
      er_of (ev_var hv) ru ⟨ad, hs⟩ H2 e2 _ fun v H3 e3 ⟨p, vs, hv, _, h3, rs⟩ => ⟨p, vs, by rw [hv], .inl (sq_of h3), by rw [rs.length]; exact q H3 e3⟩
    have fB : ∀ b1 b2 b3 b4 : Bool, (decide (d = 8) && decide (0 < (ofT blOf1 (.tup (.str w0 :: ts))).length)) = b1 → (decide (w0 = "leave") && !l) = b2 → (decide (r = "top") && (decide (w0 = "give") || (decide (w0 = "call") && giveT (.str w0 :: ts)))) = b3 → (decide (r = "method") || !aboveL (ofT exOf1 (.tup (.str w0 :: ts)))) = b4 → fitsB (.tup (.str w0 :: ts)) d r l = (!b1 && (!b2 && (!b3 && b4))) := by
      rintro b1 b2 b3 b4 rfl rfl rfl rfl
      unfold fitsB
      rw [hw]
    refine q_when (b := decide (d = 8) && decide (0 < (ofT blOf1 (.tup (.str w0 :: ts))).length)) (et_and (et_test (ev_op (ev_fld (ev_var rfl) hp1 z.cls_Place z.noat_Place_depth rfl) ev_c rv_iEq)) fun _ => et_is (et_test (ev_op (lenB rfl r1) ev_c rv_I0)) (decide_eq_decide.mpr (by omega))) (fun hb H2 e2 => s_ret ev_c fun H3 e3 => ?_) (fun hb1 H2 e2 => ?_)
    · have q := k H3 ((e1.trans e2).trans e3)
      rw [fB _ _ _ _ hb rfl rfl rfl] at q
      exact q
    refine q_when (b := decide (w0 = "leave") && !l) (et_and (et_test (ev_op (ev_var rfl) ev_c rv_sEq)) fun _ => et_not (et_B (ev_fld (ev_var rfl) (e2 _ _ hp1) z.cls_Place z.noat_Place_looping rfl))) (fun hb H3 e3 => s_ret ev_c fun H4 e4 => ?_) (fun hb2 H3 e3 => ?_)
    · have q := k H4 (((e1.trans e2).trans e3).trans e4)
      rw [fB _ _ _ _ hb1 hb rfl rfl] at q
      exact q
    have hp3 := (e2.trans e3) _ _ hp1
    have r3 := r1.mono (e2.trans e3)
    refine q_when (b := decide (r = "top") && (decide (w0 = "give") || (decide (w0 = "call") && giveT (.str w0 :: ts)))) (et_and (et_test (ev_op (ev_fld (ev_var rfl) hp3 z.cls_Place z.noat_Place_routine rfl) ev_c rv_sEq)) fun _ => et_or (et_test (ev_op (ev_var rfl) ev_c rv_sEq)) fun _ => et_and (et_test (ev_op (ev_var rfl) ev_c rv_sEq)) fun hc => ?_) (fun hb H4 e4 => s_ret ev_c fun H5 e5 => ?_) (fun hb3 H4 e4 => ?_)
    · have hc : w0 = "call" := of_decide_eq_true hc
      subst hc
      rw [lk_call] at hl
      cases hl
      obtain ⟨t1, h1⟩ : ∃ u, ts[0]? = some u := ⟨ts[0]'(by rw [hlen]; decide), by simp⟩
      have hh := part_how (hpp 0 "how" t1 rfl h1)
      obtain ⟨v1, rv1, ev1⟩ := ev_item (i := 1) (ta := tVar 0) (σ := [some x, some (.ref a), some (.str "call")]) (ev_var rfl) r3 (show (Th.str "call" :: ts)[1]? = some t1 from h1)
      cases t1 with
      | str s =>
        cases rv1
        refine et_is (et_test (ev_op ev1 ev_c rv_sEq)) ?_
        unfold giveT
        rw [show (Th.str "call" :: ts)[1]? = some (.str s) from h1]
      | _ => cases hh
    · have q := k H5 ((((e1.trans e2).trans e3).trans e4).trans e5)
      rw [fB _ _ _ _ hb1 hb2 hb rfl] at q
      exact q
    have q := k
    rw [fB _ _ _ _ hb1 hb2 hb3 rfl] at q
    refine s_ret (ev_orV (ev_op (ev_fld (ev_var rfl) (e4 _ _ hp3) z.cls_Place z.noat_Place_routine rfl) ev_c rv_sEq) fun _ => ev_notV ?_) fun H5 e5 => q H5 ((((e1.trans e2).trans e3).trans e4).trans e5)
    intro H5 e5 Q9 q9
    refine er_of (ev_var rfl) (r3.mono e4) ⟨ad, hs⟩ H5 e5 _ fun v H6 e6 ⟨p, vs, hv, _, h3, rs⟩ => ?_
    refine ⟨_, ⟨v, .lst (ofT exOf1 (.tup (.str w0 :: ts))), rfl, by rw [hv]; exact .lst h3 rs, ⟨had, Nat.succ_lt_succ hdd⟩, rfl⟩, fun H7 e7 => q9 H7 (e6.trans e7)⟩
end
end K0
/-! ## K0O -/
set_option Elab.async false
set_option linter.all false
set_option maxRecDepth 100000
set_option maxHeartbeats 4000000
namespace K0
open PySem PySem.Spec PyProof.Rows L2 Evl RZ KB
section
variable {P : Program} {w : World} {K : PySem.W.Frag} {mg : Str → Option Value} {base : Heap} {σ : L2.St} {H H' : Hp} {ta tb tc td te tl tv : TE} {x y kv : V} {X0 : XK} {tu : TS} {D : Ends} {g : TG}
/-- a comprehension whose items are told by a word that stays -/
theorem el_rel {wi : TI} {n : Nat} {vs : List Nat} (R : Nat → V → Hp → Prop) (hRe : ∀ i v H H', Ex H H' → R i v H → R i v H') (hRo : ∀ o acc i v H H', H o = some (.lst acc) → ExO o H H' → R i v H → R i v H') (hz : n ≤ 50000)
    (hi : ∀ H1, Ex H H1 → ∀ R' : It → Hp → Prop, (∀ J G Y H2, Ex H1 H2 → Walk J n G Y → (∀ H', Ex H2 H' → G H') →
      (∀ i x H3 H4, i < n → Ex H2 H3 → Y i H3 x H4 → Ex H3 H4 ∧ ∀ Qc : L2.St → Hp → Prop, (∀ σ2 H5, wipe σ2 vs = wipe σ vs → Ex H4 H5 → EvR te σ2 H5 (R i) → Qc σ2 H5) → g x (wipe σ vs) H4 Qc) → R' J H2) → wi σ H1 R') :
    ∀ H0, Ex H H0 → ∀ Q : VK, (∀ p H1 ys, H0 p = none → Ex H0 H1 → H1 p = some (.lst ys) → ys.length = n → (∀ (i : Nat) (v : V), ys[i]? = some v → R i v H1) → Q (.ref p) H1) → tLc wi g tYes te vs σ H0 Q := fun H0 e Q q => hi H0 e _ fun J G Y H1 e1 wk hG ht Dl hD => by
  refine lc_it wk (fun i H' => Ex H1 H' ∧ ∃ ys, H' Dl = some (.lst ys) ∧ ys.length = i ∧ ∀ (j : Nat) (v : V), ys[j]? = some v → R j v H') ⟨Ex.new hD, [], upd_same, rfl, fun j v h => by simp at h⟩ (fun i H' _ p => hG H' p.1) ?_ (fun H' p => ?_)
  · rintro i x H2 H3 hlt ⟨p1, ys, p2, p3, p4⟩ hy
    obtain ⟨e3, k⟩ := ht i x H2 H3 hlt p1 hy
    refine k _ fun σ2 H4 hw e4 hev => ⟨hw, ?_⟩
    show te σ2 H4 _
    refine hev H4 (Ex.refl H4) _ fun y H5 e5 ry => ⟨ys, e5 _ _ (e4 _ _ (e3 _ _ p2)), sz_lt (by omega), Ex.mut (((p1.trans e3).trans e4).trans e5) hD, ys ++ [y], upd_same, by rw [List.length_append, p3]; rfl, fun j v hj => ?_⟩
    have h5 : H5 Dl = some (.lst ys) := e5 _ _ (e4 _ _ (e3 _ _ p2))
    refine hRo Dl ys j v H5 _ h5 (ExO.of (Ex.refl _)).upd ?_
    by_cases hjl : j < ys.length
    · rw [List.getElem?_append_left hjl] at hj
      exact hRe j v _ _ ((e3.trans e4).trans e5) (p4 j v hj)
    · rw [List.getElem?_append_right (by omega)] at hj
      have h0 : j - ys.length = 0 := by
        by_cases h9 : j - ys.length = 0
        · exact h9
        · rw [List.getElem?_eq_none (by simp; omega)] at hj
          cases hj
      rw [h0] at hj
      cases hj
      have hji : j = i := by omega
      rw [hji]
      exact ry
  · obtain ⟨p1, ys, p2, p3, p4⟩ := p
    exact q Dl H' ys (fresh_back e1 hD) (e1.trans p1) p2 p3 p4
/-! rows of a survey -/
def RowV (H : Hp) (v : V) (ks : List V) (x : V) (pl : Addr) : Prop := ∃ p q, v = .ref p ∧ H p = some (.tup [.ref q, x, .ref pl]) ∧ H q = some (.tup ks)
theorem RowV.mono {v : V} {ks : List V} {pl : Addr} (e : Ex H H') (h : RowV H v ks x pl) : RowV H' v ks x pl := by
  obtain ⟨p, q, h1, h2, h3⟩ := h
  exact ⟨p, q, h1, e _ _ h2, e _ _ h3⟩
theorem RowV.exo {v : V} {ks : List V} {pl o : Addr} {acc : List V} (ho : H o = some (.lst acc)) (e : ExO o H H') (h : RowV H v ks x pl) : RowV H' v ks x pl := by
  obtain ⟨p, q, h1, h2, h3⟩ := h
  refine ⟨p, q, h1, e _ _ (fun z => ?_) h2, e _ _ (fun z => ?_) h3⟩
  · rw [z, ho] at h2
    cases h2
  · rw [z, ho] at h3
    cases h3
def SpRows (K : PySem.W.Frag) : Sp := fun vs H Q _ => ∃ b at_ pl xs ks, vs = [.ref b, .ref at_, .ref pl] ∧ H b = some (.lst xs) ∧ xs.length ≤ 1000 ∧ SqT K H at_ ks ∧ ks.length ≤ 1000 ∧
  ∀ p H' rows, H p = none → Ex H H' → H' p = some (.lst rows) → rows.length = (xs.take 13).length → (∀ (i : Nat) (v : V), rows[i]? = some v → ∃ x, xs[i]? = some x ∧ RowV H' v (ks ++ [.int (i : Nat)]) x pl) → Q (.ref p) H'
theorem er_row {a pl : Addr} {ks : List V} {n : Int} (h1 : Ev ta σ H (.ref a)) (ha : SqT K H a ks) (hl : ks.length ≤ 1000) (h2 : Ev tb σ H (.int n)) (h3 : Ev tc σ H x) (h4 : Ev td σ H (.ref pl)) :
    EvR (tTup (tCons (tOp (rCatA K) ta (tTup (tCons tb tNil))) (tCons tc (tCons td tNil)))) σ H (fun v H' => RowV H' v (ks ++ [.int n]) x pl) := by
  intro H1 e Q q
  have fin : ∀ r H', Ex H1 H' → H' r = some (.tup (ks ++ [.int n])) → tCons tc (tCons td tNil) σ H' fun xs H2 => xs.length + 1 ≤ sizeLine ∧ ∀ p : Addr, H2 p = none → Q (.ref p) (upd H2 p (.tup (.ref r :: xs))) := fun r H' e4 hr =>
    ea_cons h3 (ea_cons h4 ea_nil) _ (e.trans e4) _ fun H5 e5 => ⟨sz_of (by simp), fun s hs => q _ _ ((e4.trans e5).trans (Ex.new hs)) ⟨s, r, rfl, upd_same, (e5.trans (Ex.new hs)) _ _ hr⟩⟩
  refine h1 H1 e _ fun H2 e2 => eu_tup (ea_cons h2 ea_nil) (by simp) H2 (e.trans e2) _ fun p H3 hp e3 h3' => ?_
  refine ⟨a, p, ks, [.int n], rfl, rfl, ex_t ((e.trans e2).trans e3) ha, st_of h3', sz_of (by simp; omega), fun h0 => ?_, (fun _ h9 => nomatch h9), fun _ _ r hr => ?_⟩
  · exact fin p H3 (e2.trans e3) (by rw [h0]; exact h3')
  · exact fin r _ ((e2.trans e3).trans (Ex.new hr)) upd_same
theorem cutV_to (xs : List V) (n : Nat) : cutV xs none (some (n : Int)) = xs.take n := by
  unfold cutV
  rw [HT.sIx_nat, HT.sIx_none, List.drop_zero, Nat.sub_zero]
  by_cases h : n ≤ xs.length
  · rw [Nat.min_eq_left h]
  · rw [Nat.min_eq_right (by omega), List.take_of_length_le (by omega), List.take_of_length_le (by omega)]
theorem f_rows (z : Cz w K mg) : Cl P w K mg base 1 "_rows" (SpRows K) := by
  refine cal_of (k := 0) z.fn__rows z.glo__rows K0.c__rows (fun vs H Q E h => ?_) (fun cdv A outer s H vs Q _ hr h => ?_)
  · obtain ⟨b, at_, pl, xs, ks, rfl, _⟩ := h
    rfl
  · obtain ⟨b, at_, pl, xs, ks, rfl, hb, hxl, hat, hkl, k⟩ := h
    refine ⟨_, (pss_one (ps_ret (pe_lc (own := [("index", 3), ("thing", 4)]) rfl K0.c__rows.nd (pi_enum (by rfl) z.free_enumerate (pa_cons (pe_slice (show SlR _ (rSlL K) from sl_list) (pv 0) po_none (po_some (pe_op op_add (pe_gi z.int_MOST_IN_BLOCK) pe_int))) pa_nil)) (blkOk_by (N := N__rows) (sc := defScope s__rows) (by decide +kernel)) (fun _ _ _ _ _ => (show PG _ _ (gTup K 2 (gCons (gName 3) (gCons (gName 4) gNil))) from by refine pg_tup rfl (pgs_cons ?g0 (pgs_cons ?g1 pgs_nil)); (case g0 => exact (pg_name (i := 3) K0.c__rows.nd rfl (.inl rfl))); (case g1 => exact (pg_name (i := 4) K0.c__rows.nd rfl (.inl rfl))))) (fun _ _ _ _ _ => pts_nil) (fun _ _ _ _ _ => (pe_tup (pa_cons (pe_op (show OpR _ _ (rCatA K) from op_catA) (pv 1) (pe_tup (pa_cons (pv 3) pa_nil))) (pa_cons (pv 4) (pa_cons (pv 2) pa_nil)))))))), ?_⟩
    refine el_rel (n := (xs.take 13).length) (H := H) (fun i v H' => ∃ x, xs[i]? = some x ∧ RowV H' v (ks ++ [.int (i : Nat)]) x pl) (fun i v H H' e h => h.imp fun x q => ⟨q.1, q.2.mono e⟩) (fun o acc i v H H' ho e h => h.imp fun x q => ⟨q.1, q.2.exo ho e⟩) (by rw [List.length_take]; omega) (fun H1 e R' q => ?_) H (Ex.refl H) _ fun p H1 ys hp e hys hl hr => ?_
    · have hsl : EvL (tSl (rSlL K) (tVar 0) tNoPart (tPart (tOp (rI0 fun i j => .int (i + j)) (tC (.int 12)) (tC (.int 1))))) (start N__rows [.ref b, .ref at_, .ref pl]) H (xs.take 13) := by
        have h := el_sl (K := K) (te := tVar 0) (σ := start N__rows [.ref b, .ref at_, .ref pl]) (ev_var rfl) eo_none (eo_some (ev_op (r := rI0 fun i j => .int (i + j)) (ev_c (v := .int 12)) (ev_c (v := .int 1)) rv_I0)) (sq_of hb)
        rw [show ((12 : Int) + 1) = ((13 : Nat) : Int) from rfl, cutV_to] at h
        exact h
      refine hsl H1 e _ fun a H2 ha e2 hx2 => ⟨a, xs.take 13, rfl, sq_of hx2, q _ _ _ H2 e2 walk_enum (fun H' e5 => sq_of (e5 _ _ hx2)) fun i x H3 H4 hi e5 hy => ?_⟩
      obtain ⟨T, v1, v2, rfl, hT, rfl, g1, g2⟩ := hy
      refine ⟨Ex.new hT, fun Qc kc => g_pair upd_same (kc _ _ rfl (Ex.refl _) ?_)⟩
      cases g1
      have g2 : (xs.take 13)[i]? = some v2 := g2
      have g2' : xs[i]? = some v2 := by
        rw [List.getElem?_take] at g2
        split at g2
        · exact g2
        · cases g2
      exact (er_row (ev_var rfl) (ex_t (((e.trans e2).trans e5).trans (Ex.new hT)) hat) hkl (ev_var rfl) (ev_var rfl) (ev_var rfl)).imp fun v H5 e6 hr => ⟨v2, g2', hr⟩
    · exact k p H1 ys hp e hys hl hr
end
end K0
/-! ## K0P -/
set_option Elab.async false
set_option linter.all false
set_option maxRecDepth 100000
set_option maxHeartbeats 4000000
namespace K0
open PySem PySem.Spec PyProof.Rows L2 Evl RZ KB
section
variable {P : Program} {w : World} {K : PySem.W.Frag} {mg : Str → Option Value} {base : Heap} {σ : L2.St} {H H' H0 : Hp} {ta tb tc td te tl tv : TE} {x y kv : V} {X0 : XK} {tu : TS} {D : Ends} {g : TG}
/-! the survey of one statement whose blocks are empty -/
structure Sv (K : PySem.W.Frag) (H0 : Hp) (F Wt q pl : Addr) (H : Hp) (fl wl : List V) : Prop where
  ex : Ex H0 H
  f0 : H0 F = none
  w0 : H0 Wt = none
  ne : F ≠ Wt
  f : H F = some (.lst fl)
  w : H Wt = some (.lst wl)
  q : H q = some (.tup [.int 0])
  p : PlaceAt K H pl 1 "top" false
theorem Sv.mono {F Wt q pl : Addr} {fl wl : List V} (s : Sv K H0 F Wt q pl H fl wl) (e : Ex H H') : Sv K H0 F Wt q pl H' fl wl := ⟨s.ex.trans e, s.f0, s.w0, s.ne, e _ _ s.f, e _ _ s.w, e _ _ s.q, s.p.mono e⟩
theorem Sv.updF {F Wt q pl : Addr} {fl wl fl' : List V} (s : Sv K H0 F Wt q pl H fl wl) : Sv K H0 F Wt q pl (upd H F (.lst fl')) fl' wl := by
  obtain ⟨dx, hp⟩ := s.p
  have h := s.q
  have hf := s.f
  refine ⟨s.ex.mut s.f0, s.f0, s.w0, s.ne, upd_same, by rw [upd_ne (Ne.symm s.ne)]; exact s.w, ?_, dx, ?_⟩
  · rw [upd_ne fun z => by rw [z, hf] at h; cases h]
    exact h
  · rw [upd_ne fun z => by rw [z, hf] at hp; cases hp]
    exact hp
theorem Sv.updW {F Wt q pl : Addr} {fl wl wl' : List V} (s : Sv K H0 F Wt q pl H fl wl) : Sv K H0 F Wt q pl (upd H Wt (.lst wl')) fl wl' := by
  obtain ⟨dx, hp⟩ := s.p
  have h := s.q
  have hw := s.w
  refine ⟨s.ex.mut s.w0, s.f0, s.w0, s.ne, by rw [upd_ne s.ne]; exact s.f, upd_same, ?_, dx, ?_⟩
  · rw [upd_ne fun z => by rw [z, hw] at h; cases h]
    exact h
  · rw [upd_ne fun z => by rw [z, hw] at hp; cases hp]
    exact hp
def SpSurv (K : PySem.W.Frag) : Sp := fun vs H Q _ => ∃ b x t, vs = [.ref b] ∧ H b = some (.lst [x]) ∧ Rep K H x t ∧ Adm t ∧ dpL (ofT exOf1 t) < 40 ∧ (stmtB t = true → Adm (.lst (ofT exOf1 t)) ∧ (ofT blOf1 t).length ≤ 1000 ∧ ∀ u ∈ ofT blOf1 t, u = .lst []) ∧
  ∀ p F pv H', H p = none → H F = none → Ex H H' → H' p = some (.tup [.ref F, pv]) →
    (if (stmtB t && fitsB t 1 "top" false) = true then pv = .non ∧ ∃ row pl, H' F = some (.lst [row]) ∧ RowV H' row [.int 0] x pl else ∃ q, pv = .ref q ∧ H' q = some (.tup [.int 0]) ∧ H' F = some (.lst [])) → Q (.ref p) H'
theorem er_top {E : XK} : EvR (tCall (SpTop K) [] E tNil) σ H (fun v H' => ∃ a, v = .ref a ∧ PlaceAt K H' a 1 "top" false) := fun H1 e Q q => ⟨rfl, fun a H' e h => q _ H' e ⟨a, rfl, h⟩⟩
theorem er_rows0 {E E' : XK} {b : Addr} (h : Ev ta σ H (.ref b)) (hb : H b = some (.lst [x])) : EvR (tRevL K (tCall (SpRows K) [] E (tCons ta (tCons (tTup tNil) (tCons (tCall (SpTop K) [] E' tNil) tNil))))) σ H
    (fun v H' => ∃ W row pl p q, v = .ref W ∧ H W = none ∧ H' W = some (.lst [row]) ∧ row = .ref p ∧ H' p = some (.tup [.ref q, x, .ref pl]) ∧ H' q = some (.tup [.int 0]) ∧ PlaceAt K H' pl 1 "top" false) := by
  intro H1 e Q k
  refine h H1 e _ fun H2 e2 => eu_tup ea_nil (by decide) H2 (e.trans e2) _ fun at_ H3 _ e3 h3 => ?_
  refine (er_top (E := E') (σ := σ) (H := H3)) H3 (Ex.refl H3) _ fun v H5 e5 ⟨pl, hv, hpl⟩ => ?_
  subst hv
  have e25 := (e2.trans e3).trans e5
  refine ⟨b, at_, pl, [x], [], rfl, e25 _ _ (e _ _ hb), by simp, st_of (e5 _ _ h3), by simp, fun p H6 rows hp e6 h6 hl hr => ?_⟩
  have hl1 : rows.length = 1 := hl
  obtain ⟨row, rfl⟩ : ∃ row, rows = [row] := by
    match rows, hl1 with
    | [r], _ => exact ⟨r, rfl⟩
  obtain ⟨x', hx', p2, q2, hv, h9, h8⟩ := hr 0 row rfl
  cases hx'
  refine ⟨p, [row], rfl, sq_of h6, fun W hW => ?_⟩
  have eW := Ex.new hW (o := .lst [row])
  refine k (.ref W) _ ((e25.trans e6).trans eW) ⟨W, row, pl, p2, q2, rfl, fresh_back ((e.trans e25).trans e6) hW, upd_same, hv, eW _ _ h9, eW _ _ h8, hpl.mono (e6.trans eW)⟩
theorem s_pop {l : Addr} {xs : List V} (ha : Ev ta σ H (.ref l)) (hl : H l = some (.lst xs)) (hy : xs[xs.length - 1]? = some y) (k : ∀ H1, Ex H H1 → g y σ (upd H1 l (.lst xs.dropLast)) D.nx) : tAsg (tBM0 K "list" rPop ta) g D σ H :=
  ha H (Ex.refl H) _ fun H1 e => ⟨Or.inl ⟨rfl, xs, sq_of (e _ _ hl)⟩, l, xs, y, rfl, rfl, e _ _ hl, hy, k H1 e⟩
theorem ev_fits {E : XK} {dd : Nat} {t : Th} {a : Addr} {d : Int} {r : Str} {l : Bool} (h : Ev ta σ H x) (h2 : Ev tb σ H (.ref a)) (rt : Rep K H x t) (ad : Adm t) (hs : stmtB t = true) (hdd : dpL (ofT exOf1 t) < dd) (had : Adm (.lst (ofT exOf1 t))) (hp : PlaceAt K H a d r l) :
    Ev (tCall (SpFits K dd) [] E (tCons ta (tCons tb tNil))) σ H (.bl (fitsB t d r l)) := fun H1 e Q q =>
  ea_cons h (ea_cons h2 ea_nil) H1 e _ fun H2 e2 => ⟨x, t, a, d, r, l, rfl, rt.mono (e.trans e2), ad, hs, hdd, had, hp.mono (e.trans e2), fun H3 e3 => q H3 (e2.trans e3)⟩
theorem er_inner {E : XK} {a : Addr} {wd : Str} {d : Int} {r : Str} {l : Bool} (h : Ev ta σ H (.ref a)) (h2 : Ev tb σ H (.str wd)) (hp : PlaceAt K H a d r l) :
    EvR (tCall (SpIn K) [] E (tCons ta (tCons tb tNil))) σ H (fun v H' => ∃ b, v = .ref b ∧ PlaceAt K H' b (d + 1) (inR wd r) (inL wd l)) := fun H1 e Q q =>
  ea_cons h (ea_cons h2 ea_nil) H1 e _ fun H2 e2 => ⟨a, wd, d, r, l, rfl, hp.mono (e.trans e2), fun b H3 e3 h3 => q _ H3 (e2.trans e3) ⟨b, rfl, h3⟩⟩
theorem upd_id {a : Addr} {o : HO} (h : H a = some o) : upd H a o = H := funext fun b => by
  by_cases e : b = a
  · rw [e, upd_same, h]
  · rw [upd_ne e]
theorem er_cat {a : Addr} {ks : List V} {n : Int} (h1 : Ev ta σ H (.ref a)) (ha : SqT K H a ks) (hl : ks.length ≤ 1000) (h2 : Ev tb σ H (.int n)) : EvR (tOp (rCatA K) ta (tTup (tCons tb tNil))) σ H (fun v H' => ∃ r, v = .ref r ∧ H' r = some (.tup (ks ++ [.int n]))) := by
  intro H1 e Q q
  refine h1 H1 e _ fun H2 e2 => eu_tup (ea_cons h2 ea_nil) (by simp) H2 (e.trans e2) _ fun p H3 hp e3 h3' => ?_
  refine ⟨a, p, ks, [.int n], rfl, rfl, ex_t ((e.trans e2).trans e3) ha, st_of h3', sz_of (by simp; omega), fun h0 => ?_, (fun _ h9 => nomatch h9), fun _ _ r hr => ?_⟩
  · exact q _ H3 (e2.trans e3) ⟨p, rfl, by rw [h0]; exact h3'⟩
  · exact q _ _ ((e2.trans e3).trans (Ex.new hr)) ⟨r, rfl, upd_same⟩
/-- out.extend(_rows([], at + (i,), place)) changes nothing -/
theorem s_rowsE {E : XK} {l b a pl : Addr} {ks : List V} {n : Int} (hl : H l = some (.lst [])) (ho : Ev tl σ H (.ref l)) (hb : H b = some (.lst [])) (h1 : Ev ta σ H (.ref b)) (h2 : Ev tb σ H (.ref a)) (ha : SqT K H a ks) (hk : ks.length ≤ 900) (h3 : Ev tc σ H (.int n)) (h4 : Ev td σ H (.ref pl)) (k : ∀ H1, Ex H H1 → D.nx σ H1) :
    tDrop (tBM K "list" rExtend tl (tCons (tCall (SpRows K) [] E (tCons ta (tCons (tOp (rCatA K) tb (tTup (tCons tc tNil))) (tCons td tNil)))) tNil)) D σ H := ho H (Ex.refl H) _ fun H1 e1 =>
  ⟨Or.inl ⟨rfl, [], sq_of (e1 l _ hl)⟩, by
    refine h1 H1 e1 _ fun H2 e2 => (er_cat h2 ha (by omega) h3) H2 (e1.trans e2) _ fun v H3 e3 ⟨r, hv, hr⟩ => ?_
    subst hv
    refine h4 H3 ((e1.trans e2).trans e3) _ fun H4 e4 => ?_
    have e14 := (e1.trans e2).trans (e3.trans e4)
    refine ⟨b, r, pl, [], ks ++ [.int n], rfl, e14 _ _ hb, by simp, st_of (e4 _ _ hr), by simp; omega, fun p H5 rows hp e5 h5 hlen hr5 => ?_⟩
    have hrows : rows = [] := List.eq_nil_of_length_eq_zero hlen
    subst hrows
    refine ⟨l, p, [], [], rfl, rfl, (e14.trans e5) _ _ hl, h5, by simp, ?_⟩
    show D.nx σ (upd H5 l (.lst []))
    rw [upd_id ((e14.trans e5) _ _ hl)]
    exact k H5 (e14.trans e5)⟩
theorem q_rasg {R : V → Hp → Prop} {i : Nat} {tz : TS} (h : EvR te σ H R) (k : ∀ v H1, Ex H H1 → R v H1 → tz D (σ.set i (some v)) H1) : tSeq (tAsg te (gName i)) tz D σ H := r_asg (D := { D with nx := tz D }) h k
theorem q_forE {R : V → Hp → Prop} {tz : TS} (h : EvR te σ H R) (k : ∀ v H1, Ex H H1 → R v H1 → ∃ a xs, v = .ref a ∧ SqL K H1 a xs ∧ ∃ Pv : Nat → L2.St → Hp → Prop, Pv 0 σ H1 ∧ (∀ i σ' H', i ≤ xs.length → Pv i σ' H' → SqL K H' a xs) ∧
    (∀ i x σ' H' T, xs[i]? = some x → Pv i σ' H' → H' T = none → g (.ref T) σ' (upd H' T (.tup [.int (i : Nat), x])) fun σ2 H2 => tu { D with nx := Pv (i + 1), ct := Pv (i + 1), bk := tz D } σ2 H2) ∧ ∀ σ' H', Pv xs.length σ' H' → tz D σ' H') :
    tSeq (tFor (iEnum K (tCons te tNil)) g tu) tz D σ H := h H (Ex.refl H) _ fun v H1 e r => by
  obtain ⟨a, xs, hv, hx, Pv, p0, pG, ps, pd⟩ := k v H1 e r
  refine ⟨a, xs, by rw [hv], hx, for_it (D := { D with nx := tz D }) (walk_enum (K := K) (a := a) (xs := xs)) Pv p0 pG ?_ pd⟩
  rintro i x σ' H' H'' hi hp ⟨T, v1, v2, rfl, hT, rfl, g1, g2⟩
  cases g1
  exact ps i v2 σ' H' T g2 hp hT
theorem s_extR {R : V → Hp → Prop} {l : Addr} {xs : List V} (hl : H l = some (.lst xs)) (ha : Ev ta σ H (.ref l)) (h : EvR te σ H R) (k : ∀ v H1, Ex H H1 → R v H1 → ∃ b zs, v = .ref b ∧ H1 b = some (.lst zs) ∧ xs.length + zs.length ≤ 100000 ∧ D.nx σ (upd H1 l (.lst (xs ++ zs)))) :
    tDrop (tBM K "list" rExtend ta (tCons te tNil)) D σ H := ha H (Ex.refl H) _ fun H1 e1 =>
  ⟨Or.inl ⟨rfl, xs, sq_of (e1 l _ hl)⟩, h H1 e1 _ fun v H2 e2 r => by
    obtain ⟨b, zs, hv, hb, hz, kk⟩ := k v H2 (e1.trans e2) r
    exact ⟨l, b, xs, zs, rfl, by rw [hv], (e1.trans e2) l _ hl, hb, sz_of hz, kk⟩⟩
theorem er_rev {a : Addr} {xs : List V} (h : Ev te σ H (.ref a)) (hx : SqL K H a xs) : EvR (tRevL K te) σ H (fun v H' => ∃ p, v = .ref p ∧ H' p = some (.lst xs.reverse)) := fun H1 e Q q =>
  h H1 e _ fun H2 e2 => ⟨a, xs, rfl, ex_l (e.trans e2) hx, fun p hp => q _ _ (e2.trans (Ex.new hp)) ⟨p, rfl, upd_same⟩⟩
theorem f_survey (z : Cz w K mg) : Cl P w K mg base 44 "survey" (SpSurv K) := by
  have c__rows := f_rows (P := P) (base := base) z
  have c_top_place := f_top_place (P := P) (base := base) z
  have c_inner_place := f_inner_place (P := P) (base := base) z
  have c_is_statement := f_is_statement (P := P) (base := base) z
  have c_fits := f_fits (P := P) (base := base) z 40
  have c_blocks_of := f_blocks_of (P := P) (base := base) z
  refine cal_of (k := 43) z.fn_survey z.glo_survey K0.c_survey (fun vs H Q E h => ?_) (fun cdv A outer s H vs Q _ hr h => ?_)
  · obtain ⟨b, x, t, rfl, _⟩ := h
    rfl
  · obtain ⟨b, x, t, rfl, hb, r, ad, hdd, hok, k⟩ := h
    refine ⟨_, (pss_cons (ps_set (i := 1) K0.c_survey.nd rfl (.inl rfl) (pe_lst pa_nil))
      (pss_cons (ps_set (i := 2) K0.c_survey.nd rfl (.inl rfl) (pe_revL (pe_c c__rows hr (by first | decide | omega) (by rfl) (pa_cons (pv 0) (pa_cons (pe_tup pa_nil) (pa_cons (pe_c0 c_top_place hr (by first | decide | omega) (by rfl)) pa_nil))))))
      (pss_cons (ps_while PassesOwn.never (pt_cmpR op_gt (pe_callB call_len_seq (by rfl) z.free_len PySem.boot_len (pa_cons (pv 2) pa_nil)) pe_int (nomark _)) (pss_cons (ps_asg (pe_bm0 PySem.F.plainAttrs_list PySem.F.slot_list_pop PySem.F.type_list_pop mt_pop (pv 2)) (show PG _ _ (gTup K 3 (gCons (gName 3) (gCons (gName 4) (gCons (gName 5) gNil)))) from by refine pg_tup rfl (pgs_cons ?g0 (pgs_cons ?g1 (pgs_cons ?g2 pgs_nil))); (case g0 => exact (pg_name (i := 3) K0.c_survey.nd rfl (.inl rfl))); (case g1 => exact (pg_name (i := 4) K0.c_survey.nd rfl (.inl rfl))); (case g2 => exact (pg_name (i := 5) K0.c_survey.nd rfl (.inl rfl)))))
      (pss_cons (ps_if (PW.pt (pw_or (pt_cmpR op_eq (pe_callB call_len_seq (by rfl) z.free_len PySem.boot_len (pa_cons (pv 1) pa_nil)) (pe_gi z.int_MOST_STATEMENTS) (nomark _)) (pw_or1 (pt_cmpR op_eq (pe_ix (show IxR _ (rIxT K) from ix_tup) (pv 3) (pe_un un_neg pe_int) (fun _ _ => rfl)) (pe_gi z.int_MOST_IN_BLOCK) (nomark _))))) (pss_one (ps_ret (pe_tup (pa_cons (pv 1) (pa_cons (pv 3) pa_nil))))) pss_nil)
      (pss_cons (ps_if (PW.pt (pw_or (pt_not (pt_val (pe_c c_is_statement hr (by first | decide | omega) (by rfl) (pa_cons (pv 4) pa_nil)))) (pw_or1 (pt_not (pt_val (pe_c c_fits hr (by first | decide | omega) (by rfl) (pa_cons (pv 4) (pa_cons (pv 5) pa_nil)))))))) (pss_one (ps_ret (pe_tup (pa_cons (pv 1) (pa_cons (pv 3) pa_nil))))) pss_nil)
      (pss_cons (ps_expr (pe_bm PySem.F.plainAttrs_list PySem.F.slot_list_append PySem.F.type_list_append mt_append (pv 1) (pa_cons (pe_tup (pa_cons (pv 3) (pa_cons (pv 4) (pa_cons (pv 5) pa_nil)))) pa_nil)))
      (pss_cons (ps_set (i := 6) K0.c_survey.nd rfl (.inl rfl) (pe_lst pa_nil))
      (pss_cons (ps_set (i := 7) K0.c_survey.nd rfl (.inl rfl) (pe_c c_inner_place hr (by first | decide | omega) (by rfl) (pa_cons (pv 5) (pa_cons (pe_ix (show IxR _ (rIxT K) from ix_tup) (pv 4) pe_int (fun _ _ => rfl)) pa_nil))))
      (pss_cons (ps_for PassesOwn.never rfl (pi_enum (by rfl) z.free_enumerate (pa_cons (pe_c c_blocks_of hr (by first | decide | omega) (by rfl) (pa_cons (pv 4) pa_nil)) pa_nil)) (show PG _ _ (gTup K 2 (gCons (gName 8) (gCons (gName 9) gNil))) from by refine pg_tup rfl (pgs_cons ?g0 (pgs_cons ?g1 pgs_nil)); (case g0 => exact (pg_name (i := 8) K0.c_survey.nd rfl (.inl rfl))); (case g1 => exact (pg_name (i := 9) K0.c_survey.nd rfl (.inl rfl)))) (pss_one (ps_expr (pe_bm PySem.F.plainAttrs_list PySem.F.slot_list_extend PySem.F.type_list_extend mt_extend (pv 6) (pa_cons (pe_c c__rows hr (by first | decide | omega) (by rfl) (pa_cons (pv 9) (pa_cons (pe_op (show OpR _ _ (rCatA K) from op_catA) (pv 3) (pe_tup (pa_cons (pv 8) pa_nil))) (pa_cons (pv 7) pa_nil)))) pa_nil)))))
      (pss_one (ps_expr (pe_bm PySem.F.plainAttrs_list PySem.F.slot_list_extend PySem.F.type_list_extend mt_extend (pv 2) (pa_cons (pe_revL (pv 6)) pa_nil))))))))))))
      (pss_one (ps_ret (pe_tup (pa_cons (pv 1) (pa_cons pe_non pa_nil)))))))), ?_⟩
    refine q_asgL (el_lst ea_nil (by decide)) fun F H1 hF e1 h1 => ?_
    refine r_asg (D := { nx := _, rt := _ }) (er_rows0 (x := x) (ev_var rfl) (e1 _ _ hb)) fun v H2 e2 ⟨W, row, pl, p, q, hv, hW, h2W, hrow, h2p, h2q, hpl⟩ => ?_
    subst hv
    subst hrow
    have nFW : F ≠ W := fun zz => by rw [← zz, h1] at hW; cases hW
    have S2 : Sv K H F W q pl H2 [] [.ref p] := ⟨e1.trans e2, hF, fresh_back e1 hW, nFW, e2 _ _ h1, h2W, h2q, hpl⟩
    refine q_while (fun m σ' H' => (m = 1 ∧ σ' = [some (.ref b), some (.ref F), some (.ref W), none, none, none, none, none, none, none] ∧ H' = H2) ∨ (m = 0 ∧ σ'[1]? = some (some (.ref F)) ∧ σ'[2]? = some (some (.ref W)) ∧ (stmtB t && fitsB t 1 "top" false) = true ∧ ∃ row, Sv K H F W q pl H' [row] [] ∧ RowV H' row [.int 0] x pl)) 1 (.inl ⟨rfl, rfl, rfl⟩) (fun m σ' H' hw => ?_)
    rcases hw with ⟨rfl, rfl, rfl⟩ | ⟨rfl, s1, s2, good, row, S, hrw⟩
    · refine ⟨true, et_is (et_test (ev_op (ev_lenL (ev_var rfl) (sq_of S2.w)) ev_c rv_I0)) rfl, fun _ H3 e3 => ⟨fun σ' H' => σ'[1]? = some (some (.ref F)) ∧ σ'[2]? = some (some (.ref W)) ∧ (stmtB t && fitsB t 1 "top" false) = true ∧ ∃ row, Sv K H F W q pl H' [row] [] ∧ RowV H' row [.int 0] x pl, fun σ2 H9 h9 => ⟨0, by decide, .inr ⟨rfl, h9⟩⟩, ?_⟩, fun hh => nomatch hh⟩
      have S3 := S2.mono e3
      have h3p := e3 _ _ h2p
      refine s_pop (D := { nx := _, rt := _, ct := _, bk := _ }) (ev_var rfl) S3.w (y := .ref p) rfl fun H4 e4 => ?_
      have S4 := (S3.mono e4).updW (wl' := [])
      have h4p : (upd H4 W (.lst ([.ref p] : List V).dropLast)) p = some (.tup [.ref q, x, .ref pl]) := by
        rw [upd_ne fun zz => by have := e4 _ _ h3p; rw [zz, e4 _ _ S3.w] at this; cases this]
        exact e4 _ _ h3p
      refine ⟨p, [.ref q, x, .ref pl], rfl, st_of h4p, rfl, _, _, rfl, _, _, rfl, _, _, rfl, rfl, ?_⟩
      have S4 : Sv K H F W q pl (upd H4 W (.lst ([.ref p] : List V).dropLast)) [] [] := S4
      generalize upd H4 W (.lst ([.ref p] : List V).dropLast) = H5 at S4 h4p
      have r5 : Rep K H5 x t := r.mono S4.ex
      have rQ : ∀ p F pv H', H p = none → H F = none → Ex H H' → H' p = some (.tup [.ref F, pv]) → (if (stmtB t && fitsB t 1 "top" false) = true then pv = .non ∧ ∃ row pl, H' F = some (.lst [row]) ∧ RowV H' row [.int 0] x pl else ∃ q, pv = .ref q ∧ H' q = some (.tup [.int 0]) ∧ H' F = some (.lst [])) → Q (.ref p) H' := k
      refine q_when (b := false) (et_is (et_or (et_test (ev_op (ev_lenL (ev_var rfl) (sq_of S4.f)) ev_c rv_iEq)) fun _ => et_test (ev_op (ev_op (ev_var rfl) (ev_un ev_c ru_neg) (rv_ixT (v := .int 0) (st_of S4.q) rfl)) ev_c rv_iEq)) (by decide)) (fun hh => nomatch hh) (fun _ H6 e6 => ?_)
      have S6 := S4.mono e6
      have r6 := r5.mono e6
      have bad : (stmtB t && fitsB t 1 "top" false) = false → ∀ H7, Ex H6 H7 → tRet (tTup (tCons (tVar 1) (tCons (tVar 3) tNil))) { nx := fun _ H' => Q .non H', rt := Q } [some (.ref b), some (.ref F), some (.ref W), some (.ref q), some x, some (.ref pl), none, none, none, none] H7 := fun hf H7 e7 =>
        s_retU (eu_tup (ea_cons (ev_var rfl) (ea_cons (ev_var rfl) ea_nil)) (by simp)) fun pp H8 hp8 e8 h8 => by
          have S8 := (S6.mono e7).mono e8
          refine rQ pp F (.ref q) H8 (fresh_back (S6.mono e7).ex hp8) S8.f0 S8.ex h8 ?_
          rw [hf]
          rw [if_neg (by decide)]
          exact ⟨q, rfl, S8.q, S8.f⟩
      refine q_when (b := !(stmtB t && fitsB t 1 "top" false)) (et_is (et_or (et_not (et_B (ev_p1 (ev_var rfl) r6 ad))) (b := !fitsB t 1 "top" false) fun hh => ?_) ?_) (fun hh H7 e7 => bad (by rw [Bool.not_eq_true'] at hh; exact hh) H7 e7) (fun hh H7 e7 => ?_)
      · have hs : stmtB t = true := by simpa using hh
        exact et_not (et_B (ev_fits (ev_var rfl) (ev_var rfl) r6 ad hs hdd (hok hs).1 S6.p))
      · rw [Bool.not_and]
      have good : (stmtB t && fitsB t 1 "top" false) = true := by simpa using hh
      have hs : stmtB t = true := (Bool.and_eq_true_iff.mp good).1
      obtain ⟨had, hbl, hbe⟩ := hok hs
      have S7 := S6.mono e7
      have r7 := r6.mono e7
      -- found.append((path, thing, place))
      refine q_appU S7.f (ev_var rfl) (eu_tup (ea_cons (ev_var rfl) (ea_cons (ev_var rfl) (ea_cons (ev_var rfl) ea_nil))) (by simp)) (by decide) fun rw_ H8 hrw e8 h8 => ?_
      have S9 := (S7.mono e8).updF (fl' := [] ++ [.ref rw_])
      have hro : (upd H8 F (.lst ([] ++ [.ref rw_]))) rw_ = some (.tup [.ref q, x, .ref pl]) := by
        rw [upd_ne fun zz => by have := (S7.mono e8).f; rw [← zz, h8] at this; cases this]
        exact h8
      have r9 : Rep K (upd H8 F (.lst ([] ++ [.ref rw_]))) x t := r.mono S9.ex
      generalize upd H8 F (.lst ([] ++ [.ref rw_])) = H9 at S9 hro r9
      refine q_asgL (el_lst ea_nil (by decide)) fun I H10 hI e10 h10 => ?_
      have S10 := S9.mono e10
      have r10 := r9.mono e10
      obtain ⟨w0, ll, ts, hts, hw0, hll, hlen, hpp⟩ := stmt_parts hs
      have item0 : Rep K H10 x (.tup (.str w0 :: ts)) := hts ▸ r10
      obtain ⟨v0, rv0, ev0⟩ := ev_item (ta := tVar 4) (σ := [some (.ref b), some (.ref F), some (.ref W), some (.ref q), some x, some (.ref pl), some (.ref I), none, none, none]) (ev_var rfl) item0 (show (Th.str w0 :: ts)[0]? = some (.str w0) from rfl)
      cases rv0
      refine q_rasg (er_inner (ev_var rfl) ev0 S10.p) fun v H11 e11 ⟨ar, hv, har⟩ => ?_
      subst hv
      have S11 := S10.mono e11
      have r11 := r10.mono e11
      have h11 := e11 _ _ h10
      have hro11 := (e10.trans e11) _ _ hro
      refine q_forE (er_of (ev_var rfl) r11 ⟨ad, hs⟩) fun v H12 e12 ⟨pb, bs, hv, _, hpb, hbs⟩ => ?_
      refine ⟨pb, bs, hv, sq_of hpb, fun i σ' H' => (∃ a1 a2, σ' = [some (.ref b), some (.ref F), some (.ref W), some (.ref q), some x, some (.ref pl), some (.ref I), some (.ref ar), a1, a2]) ∧ Ex H12 H', ⟨⟨none, none, rfl⟩, Ex.refl _⟩, fun i σ' H' _ q => sq_of (q.2 _ _ hpb), ?_, ?_⟩
      · rintro i v2 σ' H13 T g2 ⟨⟨a1, a2, rfl⟩, e13⟩ hT
        refine g_pair upd_same ?_
        have e14 : Ex H12 (upd H13 T (.tup [.int (i : Nat), v2])) := e13.trans (Ex.new hT)
        obtain ⟨u, hu, ru⟩ := hbs.get g2
        have hu2 := hbe u (List.mem_of_getElem? hu)
        subst hu2
        cases ru with
        | lst hL rl =>
          cases rl
          exact s_rowsE (e14 _ _ (e12 _ _ h11)) (ev_var rfl) (e14 _ _ hL) (ev_var rfl) (ev_var rfl) (ks := [.int 0]) (st_of ((S11.mono (e12.trans e14)).q)) (by simp) (ev_var rfl) (ev_var rfl) fun H15 e15 => ⟨⟨_, _, rfl⟩, e14.trans e15⟩
      · rintro σ' H13 ⟨⟨a1, a2, rfl⟩, e13⟩
        have S13 := S11.mono (e12.trans e13)
        have h13 := (e12.trans e13) _ _ h11
        refine s_extR S13.w (ev_var rfl) (er_rev (ev_var rfl) (sq_of h13)) fun v H14 e14 ⟨pp, hv, hpp14⟩ => ⟨pp, [], hv, hpp14, by simp, ?_⟩
        have S14 := S13.mono e14
        show (_ ∧ _)
        rw [show ([] ++ [] : List V) = [] from rfl, upd_id S14.w]
        exact ⟨rfl, rfl, good, .ref rw_, S14, rw_, q, rfl, ((e12.trans e13).trans e14) _ _ hro11, S14.q⟩
    · refine ⟨false, et_is (et_test (ev_op (ev_lenL (ev_var s2) (sq_of S.w)) ev_c rv_I0)) rfl, (fun hh => nomatch hh), fun _ H3 e3 => ?_⟩
      refine s_retU (eu_tup (ea_cons (ev_var s1) (ea_cons ev_c ea_nil)) (by simp)) fun pp H8 hp8 e8 h8 => ?_
      have S8 := (S.mono e3).mono e8
      refine k pp F .non H8 (fresh_back (S.mono e3).ex hp8) S8.f0 S8.ex h8 ?_
      rw [good, if_pos rfl]
      exact ⟨rfl, row, pl, S8.f, (hrw.mono e3).mono e8⟩
end
end K0
/-! ## K0Q -/
set_option Elab.async false
set_option linter.all false
set_option maxRecDepth 100000
set_option maxHeartbeats 4000000
namespace K0
open PySem PySem.Spec PyProof.Rows L2 Evl RZ KB
section
variable {P : Program} {w : World} {K : PySem.W.Frag} {mg : Str → Option Value} {base : Heap} {σ : L2.St} {H H' H0 : Hp} {ta tb tc td te tl tv tk : TE} {x y kv : V} {X0 : XK} {tu : TS} {D : Ends} {g : TG}
/-! an instance that changes, all else stays -/
def IsIns (H : Hp) (a : Addr) : Prop := ∃ C dx fs, H a = some (.ins C dx fs)
theorem ExO.mut {o p : Addr} {u : HO} (e : ExO o H H') (h : H p = none) : ExO o H (L2.upd H' p u) := fun a v n ha => by
  rw [L2.upd_ne fun z => by rw [z, h] at ha; cases ha]
  exact e a v n ha
theorem ExO.at {o a : Addr} {u : HO} (e : ExO o H H') (hi : IsIns H o) (h : H a = some u) (hu : ∀ C dx fs, u ≠ .ins C dx fs) : H' a = some u := e a u (fun z => by
  obtain ⟨C, dx, fs, hi⟩ := hi
  rw [z, hi] at h
  exact hu C dx fs (Option.some.inj h).symm) h
theorem ExO.sqtI {o a : Addr} {xs : List V} (hi : IsIns H o) (e : ExO o H H') (h : SqT K H a xs) : SqT K H' a xs := by
  rcases h with (h | ⟨v, h⟩) | h
  · exact .inl (.inl (e.at hi h fun _ _ _ q => nomatch q))
  · exact .inl (.inr ⟨v, e.at hi h fun _ _ _ q => nomatch q⟩)
  · exact .inr h
mutual
theorem Rep.exi {o : Addr} (hi : IsIns H o) (e : ExO o H H') : ∀ {v : V} {t : Th}, Rep K H v t → Rep K H' v t
  | _, _, .non => .non
  | _, _, .bl b => .bl b
  | _, _, .int i => .int i
  | _, _, .str x => .str x
  | _, _, .lst h r => .lst (e.at hi h fun _ _ _ q => nomatch q) (Reps.exi hi e r)
  | _, _, .tup h r => .tup (e.sqtI hi h) (Reps.exi hi e r)
  | _, _, .dic h => .dic (e.at hi h fun _ _ _ q => nomatch q)
theorem Reps.exi {o : Addr} (hi : IsIns H o) (e : ExO o H H') : ∀ {vs : List V} {ts : List Th}, Reps K H vs ts → Reps K H' vs ts
  | _, _, .nil => .nil
  | _, _, .cons h r => .cons (Rep.exi hi e h) (Reps.exi hi e r)
end
/-! the layout's own objects -/
def layC (K : PySem.W.Frag) : Addr := He.ga K "Layout"
structure Lay (K : PySem.W.Frag) (a R Pm B : Addr) (n : Nat) (H : Hp) : Prop where
  ob : ∃ dx fs, H a = some (.ins (layC K) dx fs) ∧ fs.lookup ("routines" : Str) = some (.ref R) ∧ fs.lookup ("parameters" : Str) = some (.ref Pm) ∧ fs.lookup ("bodies" : Str) = some (.ref B) ∧ fs.lookup ("_keep" : Str) = none
  ne : Pm ≠ B
  r : ∃ rs, H R = some (.lst rs) ∧ rs.length ≤ n
  p : ∃ ps, H Pm = some (.dT ps) ∧ ps.length ≤ n
  b : ∃ bs, H B = some (.dT bs) ∧ bs.length ≤ n
theorem Lay.mono {a R Pm B : Addr} {n : Nat} (l : Lay K a R Pm B n H) (e : Ex H H') : Lay K a R Pm B n H' := by
  obtain ⟨⟨dx, fs, h, q⟩, ne, ⟨rs, hr, r2⟩, ⟨ps, hp, p2⟩, ⟨bs, hb, b2⟩⟩ := l
  exact ⟨⟨dx, fs, e _ _ h, q⟩, ne, ⟨rs, e _ _ hr, r2⟩, ⟨ps, e _ _ hp, p2⟩, ⟨bs, e _ _ hb, b2⟩⟩
/-- what changes: the layout's objects -/
def Lx (a R Pm B : Addr) (H H' : Hp) : Prop := ∀ z u, z ≠ R → z ≠ Pm → z ≠ B → H z = some u → H' z = some u
theorem Lx.of {a R Pm B : Addr} (e : Ex H H') : Lx a R Pm B H H' := fun z u _ _ _ h => e z u h
theorem Lx.ex {a R Pm B : Addr} {H0 : Hp} (e0 : ExO a H0 H) (hr : H0 R = none) (hp : H0 Pm = none) (hb : H0 B = none) (e : Lx a R Pm B H H') : ExO a H0 H' := fun z u n h =>
  e z u (fun q => by rw [q, hr] at h; cases h) (fun q => by rw [q, hp] at h; cases h) (fun q => by rw [q, hb] at h; cases h) (e0 z u n h)
def SpKeep (K : PySem.W.Frag) : Sp := fun vs H Q _ => ∃ a c p b k R Pm B n, vs = [.ref a, .ref c, p, b] ∧ Lay K a R Pm B n H ∧ n ≤ 1000 ∧ H c = some (.tup (List.map kV k)) ∧ ∀ H', Lx a R Pm B H H' → Lay K a R Pm B (n + 1) H' → Q .non H'
theorem s_dput {d b : Addr} {kvs : List (List Key × V)} {k : List Key} {v : V} (hv : Ev tv σ H v) (hd : Ev td σ H (.ref d)) (hy : Ev ta σ H (.ref b)) (e : H d = some (.dT kvs)) (eb : H b = some (.tup (k.map kV))) (hl : kvs.length < 100000) (q : ∀ H1, Ex H H1 → D.nx σ (upd H1 d (.dT (putK kvs k v)))) :
    sDPut td ta tv D σ H := hv H (Ex.refl H) _ fun H1 e1 => hd H1 e1 _ fun H2 e2 => hy H2 (e1.trans e2) _ fun H3 e3 =>
  ⟨d, _, rfl, DPut.t (((e1.trans e2).trans e3) _ _ e) (((e1.trans e2).trans e3) _ _ eb) (sz_lt hl), q H3 ((e1.trans e2).trans e3)⟩
theorem q_dput {tz : TS} {d b : Addr} {kvs : List (List Key × V)} {k : List Key} {v : V} (hv : Ev tv σ H v) (hd : Ev td σ H (.ref d)) (hy : Ev ta σ H (.ref b)) (e : H d = some (.dT kvs)) (eb : H b = some (.tup (k.map kV))) (hl : kvs.length < 100000) (q : ∀ H1, Ex H H1 → tz D σ (upd H1 d (.dT (putK kvs k v)))) :
    tSeq (sDPut td ta tv) tz D σ H := s_dput (D := { D with nx := tz D }) hv hd hy e eb hl q
theorem f_keep (z : Cz w K mg) : Mt P w K mg base 1 (layC K) "_keep" (SpKeep K) := by
  refine mt_of (k := 0) z.meth_Layout__keep z.cls_Layout z.fn_Layout_keep K0.c_Layout_keep (fun vs H Q E h => ?_) (fun cdv A outer s H vs Q _ hr h => ?_)
  · obtain ⟨a, c, p, b, k, R, Pm, B, n, rfl, _⟩ := h
    rfl
  · obtain ⟨a, c, p, b, k, R, Pm, B, n, rfl, ⟨⟨dx, fs, ha, f1, f2, f3, f4⟩, ne, ⟨rs, hr1, hr2⟩, ⟨ps, hp1, hp2⟩, ⟨bs, hb1, hb2⟩⟩, hn, hc, kk⟩ := h
    refine ⟨_, (pss_cons (ps_expr (pe_bm PySem.F.plainAttrs_list PySem.F.slot_list_append PySem.F.type_list_append mt_append (pe_fld (pv 0) rfl) (pa_cons (pv 1) pa_nil)))
      (pss_cons (ps_dput (hu_of hr) (pe_fld (pv 0) rfl) (pv 1) (pv 2) rfl)
      (pss_one (ps_dput (hu_of hr) (pe_fld (pv 0) rfl) (pv 1) (pv 3) rfl)))), ?_⟩
    refine q_app hr1 (ev_fld (ev_var rfl) ha z.cls_Layout z.noat_Layout_routines f1) (ev_var rfl) (by omega) fun H1 e1 => ?_
    have nRa : a ≠ R := fun q => by rw [← q, ha] at hr1; cases hr1
    have nRP : Pm ≠ R := fun q => by rw [q, hr1] at hp1; cases hp1
    have nRB : B ≠ R := fun q => by rw [q, hr1] at hb1; cases hb1
    have nRc : c ≠ R := fun q => by rw [q, hr1] at hc; cases hc
    have nPa : a ≠ Pm := fun q => by rw [← q, ha] at hp1; cases hp1
    have nPc : c ≠ Pm := fun q => by rw [q, hp1] at hc; cases hc
    have nBa : a ≠ B := fun q => by rw [← q, ha] at hb1; cases hb1
    have a1 : (upd H1 R (.lst (rs ++ [.ref c]))) a = some (.ins (layC K) dx fs) := by rw [upd_ne nRa]; exact e1 _ _ ha
    have p1 : (upd H1 R (.lst (rs ++ [.ref c]))) Pm = some (.dT ps) := by rw [upd_ne nRP]; exact e1 _ _ hp1
    have b1 : (upd H1 R (.lst (rs ++ [.ref c]))) B = some (.dT bs) := by rw [upd_ne nRB]; exact e1 _ _ hb1
    have c1 : (upd H1 R (.lst (rs ++ [.ref c]))) c = some (.tup (k.map kV)) := by rw [upd_ne nRc]; exact e1 _ _ hc
    have r1 : (upd H1 R (.lst (rs ++ [.ref c]))) R = some (.lst (rs ++ [.ref c])) := upd_same
    have x1 : Lx a R Pm B H (upd H1 R (.lst (rs ++ [.ref c]))) := fun z u n1 n2 n3 h => by rw [upd_ne n1]; exact e1 _ _ h
    generalize upd H1 R (.lst (rs ++ [.ref c])) = H2 at a1 p1 b1 c1 r1 x1
    refine q_dput (ev_var rfl) (ev_fld (ev_var rfl) a1 z.cls_Layout z.noat_Layout_parameters f2) (ev_var rfl) p1 c1 (by omega) fun H3 e3 => ?_
    have a2 : (upd H3 Pm (.dT (putK ps k p))) a = some (.ins (layC K) dx fs) := by rw [upd_ne nPa]; exact e3 _ _ a1
    have b2 : (upd H3 Pm (.dT (putK ps k p))) B = some (.dT bs) := by rw [upd_ne (Ne.symm ne)]; exact e3 _ _ b1
    have c2 : (upd H3 Pm (.dT (putK ps k p))) c = some (.tup (k.map kV)) := by rw [upd_ne nPc]; exact e3 _ _ c1
    have r2 : (upd H3 Pm (.dT (putK ps k p))) R = some (.lst (rs ++ [.ref c])) := by rw [upd_ne (Ne.symm nRP)]; exact e3 _ _ r1
    have p2 : (upd H3 Pm (.dT (putK ps k p))) Pm = some (.dT (putK ps k p)) := upd_same
    have x2 : Lx a R Pm B H (upd H3 Pm (.dT (putK ps k p))) := fun z u n1 n2 n3 h => by rw [upd_ne n2]; exact e3 _ _ (x1 z u n1 n2 n3 h)
    generalize upd H3 Pm (.dT (putK ps k p)) = H4 at a2 b2 c2 r2 p2 x2
    refine s_dput (ev_var rfl) (ev_fld (ev_var rfl) a2 z.cls_Layout z.noat_Layout_bodies f3) (ev_var rfl) b2 c2 (by omega) fun H5 e5 => ?_
    refine kk _ (fun z u n1 n2 n3 h => by rw [upd_ne n3]; exact e5 _ _ (x2 z u n1 n2 n3 h)) ⟨⟨dx, fs, by rw [upd_ne nBa]; exact e5 _ _ a2, f1, f2, f3, f4⟩, ne, ⟨_, by rw [upd_ne (Ne.symm nRB)]; exact e5 _ _ r2, by rw [List.length_append]; simp; omega⟩, ⟨_, by rw [upd_ne ne]; exact e5 _ _ p2, by have := length_putK ps k p; omega⟩, ⟨_, upd_same, by have := length_putK bs k b; omega⟩⟩
end
end K0
/-! ## K0S -/
set_option Elab.async false
set_option linter.all false
set_option maxRecDepth 100000
set_option maxHeartbeats 4000000
namespace K0
open PySem PySem.Spec PyProof.Rows L2 Evl RZ KB
section
variable {P : Program} {w : World} {K : PySem.W.Frag} {mg : Str → Option Value} {base : Heap} {σ : L2.St} {H H' H0 : Hp} {ta tb tc td te tl tv tk to : TE} {x y kv : V} {X0 : XK} {tu tz : TS} {D : Ends} {g : TG} {R : V → Hp → Prop}
theorem q_rg (h : EvR te σ H R) (k : ∀ v H1, Ex H H1 → R v H1 → g v σ H1 (tz D)) : tSeq (tAsg te g) tz D σ H := h H (Ex.refl H) _ k
theorem q_fld {f : Str} {a C dx : Addr} {fs : List (Str × V)} (hv : EvR tv σ H R) (ha : Ev ta σ H (.ref a)) (hH : H a = some (.ins C dx fs)) (c : Cls K C) (n : NoAttr K C f) (l : fs.length < 1000) (k : ∀ y H1 H2, Ex H H1 → R y H1 → Ex H1 H2 → tz D σ (upd H2 a (.ins C dx (putF f y fs)))) : tSeq (sFld K ta tv f) tz D σ H :=
  r_fld (D := { D with nx := tz D }) hv ha hH c n l k
theorem s_forE (h : EvR te σ H R) (k : ∀ v H1, Ex H H1 → R v H1 → ∃ a xs, v = .ref a ∧ SqL K H1 a xs ∧ ∃ Pv : Nat → L2.St → Hp → Prop, Pv 0 σ H1 ∧ (∀ i σ' H', i ≤ xs.length → Pv i σ' H' → SqL K H' a xs) ∧
    (∀ i x σ' H' T, xs[i]? = some x → Pv i σ' H' → H' T = none → g (.ref T) σ' (upd H' T (.tup [.int (i : Nat), x])) fun σ2 H2 => tu { D with nx := Pv (i + 1), ct := Pv (i + 1), bk := D.nx } σ2 H2) ∧ ∀ σ' H', Pv xs.length σ' H' → D.nx σ' H') :
    tFor (iEnum K (tCons te tNil)) g tu D σ H := h H (Ex.refl H) _ fun v H1 e r => by
  obtain ⟨a, xs, hv, hx, Pv, p0, pG, ps, pd⟩ := k v H1 e r
  refine ⟨a, xs, by rw [hv], hx, for_it (walk_enum (K := K) (a := a) (xs := xs)) Pv p0 pG ?_ pd⟩
  rintro i x σ' H' H'' hi hp ⟨T, v1, v2, rfl, hT, rfl, g1, g2⟩
  cases g1
  exact ps i v2 σ' H' T g2 hp hT
/-- a comprehension over a list, of which we only tell that it is one -/
theorem er_lc {a : Addr} {xs : List V} {vs : List Nat} (h : Ev tl σ H (.ref a)) (hx : SqL K H a xs) (hz : xs.length ≤ 1000) (ht : ∀ (i : Nat) (x : V) (H3 : Hp), Ex H H3 → xs[i]? = some x → ∀ Qc : L2.St → Hp → Prop, (∀ σ2, wipe σ2 vs = wipe σ vs → (∃ v, Ev te σ2 H3 v) → Qc σ2 H3) → g x (wipe σ vs) H3 Qc) :
    EvR (tLc (iList K tl) g tYes te vs) σ H (fun v H' => ∃ p ys, v = .ref p ∧ H p = none ∧ H' p = some (.lst ys) ∧ ys.length = xs.length) := fun H0 e Q q =>
  el_rel (n := xs.length) (H := H) (fun _ _ _ => True) (fun _ _ _ _ _ _ => trivial) (fun _ _ _ _ _ _ _ _ _ => trivial) (by omega) (fun H1 e1 R' q' => h H1 e1 _ fun H2 e2 => ⟨a, rfl, ⟨xs, ex_l (e1.trans e2) hx⟩, q' _ _ _ H2 e2 walk_list (fun H' e3 => ex_l ((e1.trans e2).trans e3) hx) fun i x H3 H4 hi e3 hy => by
    obtain ⟨rfl, hx'⟩ := hy
    exact ⟨Ex.refl _, fun Qc kc => ht i x H4 ((e1.trans e2).trans e3) hx' Qc fun σ2 hw ⟨v, hv⟩ => kc σ2 H4 hw (Ex.refl _) ((EvR.of hv).imp fun _ _ _ _ => trivial)⟩⟩) H0 e Q fun p H1 ys hp e1 h1 hl _ => q _ H1 e1 ⟨p, ys, rfl, fresh_back e hp, h1, hl⟩
/-- {k: v for .. in a list of one} -/
theorem er_dc {a : Addr} {x0 : V} {vs : List Nat} (h : Ev tl σ H (.ref a)) (hx : SqL K H a [x0]) (ht : ∀ (H3 : Hp), Ex H H3 → ∀ Qc : L2.St → Hp → Prop, (∀ σ2, wipe σ2 vs = wipe σ vs → (∃ k b y, Ev tk σ2 H3 (.ref b) ∧ H3 b = some (.tup (List.map kV k)) ∧ Ev tv σ2 H3 y) → Qc σ2 H3) → g x0 (wipe σ vs) H3 Qc) :
    EvR (tDcT (iList K tl) g tYes tk tv vs) σ H (fun v H' => ∃ p kvs, v = .ref p ∧ H p = none ∧ H' p = some (.dT kvs)) := fun H0 e Q q =>
  h H0 e _ fun H1 e1 => ⟨a, rfl, ⟨_, ex_l (e.trans e1) hx⟩, fun Dd hD => by
    refine ⟨fun i m H' => (i = 0 ∧ m = 1 ∧ Ex H1 H' ∧ H' Dd = some (.dT [])) ∨ (i = 1 ∧ m = 0 ∧ Ex H1 H' ∧ ∃ kvs, H' Dd = some (.dT kvs)), ⟨1, .inl ⟨rfl, rfl, Ex.new hD, upd_same⟩⟩, fun i m H' hw => ?_⟩
    rcases hw with ⟨rfl, rfl, e2, h2⟩ | ⟨rfl, rfl, e2, kvs, h2⟩
    · have hq := ex_l ((e.trans e1).trans e2) hx
      refine .inr ⟨walk_list.goes 0 H' (by simp) hq, fun H'' => Ex H1 H'' ∧ ∃ kvs, H'' Dd = some (.dT kvs), fun H'' q => ⟨0, by decide, .inr ⟨rfl, rfl, q⟩⟩, fun x H'' hy => ?_⟩
      obtain ⟨rfl, hx'⟩ := walk_list.yields 0 H' x H'' (by simp) hq hy
      cases hx'
      refine ht H'' ((e.trans e1).trans e2) _ fun σ2 hw ⟨k, b, y, hk, hb, hv⟩ => ⟨hw, ?_⟩
      show tk σ2 H'' _
      refine hk H'' (Ex.refl _) _ fun H3 e3 => hv H3 e3 _ fun H4 e4 => ⟨k, b, [], rfl, (e3.trans e4) _ _ hb, (e3.trans e4) _ _ h2, by decide, Ex.mut ((e2.trans e3).trans e4) hD, _, upd_same⟩
    · have hq := ex_l ((e.trans e1).trans e2) hx
      exact .inl ⟨walk_list.stops H' hq, q _ H' (e1.trans e2) ⟨Dd, kvs, rfl, fresh_back (e.trans e1) hD, h2⟩⟩⟩
/-- {(): v} -/
theorem er_disp1 (hv : ∀ H1, Ex H H1 → EvR tv σ H1 (fun _ _ => True)) : EvR (tDisp1 (tTup tNil) tv) σ H (fun v H' => ∃ p kvs, v = .ref p ∧ H p = none ∧ H' p = some (.dT kvs) ∧ kvs.length ≤ 1) := fun H0 e Q q p hp => by
  have en := Ex.new hp (o := .dT [])
  refine eu_tup (σ := σ) (H := upd H0 p (.dT [])) ea_nil (by decide) _ (Ex.refl _) _ fun b H1 hb e1 h1 => ?_
  refine hv H1 ((e.trans en).trans e1) H1 (Ex.refl _) _ fun y H2 e2 _ => ⟨[], b, rfl, e2 _ _ h1, (e1.trans e2) _ _ upd_same, q _ _ (Ex.mut ((en.trans e1).trans e2) hp) ⟨p, _, rfl, fresh_back e hp, upd_same, by simp⟩⟩
theorem er_survey {E : XK} {b : Addr} {t : Th} (h : Ev ta σ H (.ref b)) (hb : H b = some (.lst [x])) (r : Rep K H x t) (ad : Adm t) (hdd : dpL (ofT exOf1 t) < 40) (hok : stmtB t = true → Adm (.lst (ofT exOf1 t)) ∧ (ofT blOf1 t).length ≤ 1000 ∧ ∀ u ∈ ofT blOf1 t, u = .lst []) :
    EvR (tCall (SpSurv K) [] E (tCons ta tNil)) σ H (fun v H' => ∃ p F pv, v = .ref p ∧ H p = none ∧ H F = none ∧ H' p = some (.tup [.ref F, pv]) ∧
      (if (stmtB t && fitsB t 1 "top" false) = true then pv = .non ∧ ∃ row pl, H' F = some (.lst [row]) ∧ RowV H' row [.int 0] x pl else ∃ q, pv = .ref q ∧ H' q = some (.tup [.int 0]) ∧ H' F = some (.lst []))) := fun H1 e Q q =>
  ea_cons h ea_nil H1 e _ fun H2 e2 => ⟨b, x, t, rfl, (e.trans e2) _ _ hb, r.mono (e.trans e2), ad, hdd, hok, fun p F pv H3 hp hF e3 h3 hif => q _ H3 (e2.trans e3) ⟨p, F, pv, rfl, fresh_back (e.trans e2) hp, fresh_back (e.trans e2) hF, h3, hif⟩⟩
theorem s_keep {E : XK} {a Rr Pm B : Addr} {n : Nat} {k : List Key} {p b : V} (ho : Ev to σ H (.ref a)) (hl : Lay K a Rr Pm B n H) (hn : n ≤ 1000) (h1 : EvR tc σ H (fun v H' => ∃ c, v = .ref c ∧ H' c = some (.tup (k.map kV)))) (h2 : Ev ta σ H p) (h3 : Ev tb σ H b)
    (kk : ∀ H1 H2, Ex H H1 → Lx a Rr Pm B H1 H2 → Lay K a Rr Pm B (n + 1) H2 → D.nx σ H2) : tDrop (tMeth (layC K) "_keep" (SpKeep K) [] E to (tCons tc (tCons ta (tCons tb tNil)))) D σ H := ho H (Ex.refl H) _ fun H1 e1 => by
  obtain ⟨dx, fs, hi, f1, f2, f3, f4⟩ := (hl.mono e1).ob
  refine ⟨a, dx, fs, rfl, hi, f4, ?_⟩
  refine h1 H1 e1 _ fun v H2 e2 ⟨c, hv, hc⟩ => ea_cons h2 (ea_cons h3 ea_nil) H2 (e1.trans e2) _ fun H3 e3 => ?_
  subst hv
  exact ⟨a, c, p, b, k, Rr, Pm, B, n, rfl, hl.mono ((e1.trans e2).trans e3), hn, e3 _ _ hc, fun H4 lx l4 => kk H3 H4 ((e1.trans e2).trans e3) lx l4⟩
end
end K0
/-! ## K0U -/
set_option Elab.async false
set_option linter.all false
set_option maxRecDepth 100000
set_option maxHeartbeats 8000000
namespace K0
open PySem PySem.Spec PyProof.Rows L2 Evl RZ KB
section
variable {P : Program} {w : World} {K : PySem.W.Frag} {mg : Str → Option Value} {base : Heap} {σ : L2.St} {H H' H0 : Hp} {ta tb tc td te tl tv tk to : TE} {x y kv : V} {X0 : XK} {tu tz : TS} {D : Ends} {g : TG} {R : V → Hp → Prop}
def SpLay (K : PySem.W.Frag) : Sp := fun vs H Q _ => ∃ a dx b x t, vs = [.ref a, .ref b] ∧ H a = some (.ins (layC K) dx []) ∧ H b = some (.lst [x]) ∧ Rep K H x t ∧ Adm t ∧ dpL (ofT exOf1 t) < 40 ∧ (Adm (.lst (ofT exOf1 t)) ∧ (ofT blOf1 t).length ≤ 1000 ∧ ∀ u ∈ ofT blOf1 t, u = .lst []) ∧
  (stmtB t && fitsB t 1 "top" false) = true ∧ ∀ H', ExO a H H' → Q .non H'
theorem lk_def : t_STATEMENTS.lookup ("def" : Str) = some (["name", "parameters", "block"] : List Str) := by decide +kernel
theorem lk_class : t_STATEMENTS.lookup ("class" : Str) = some (["name", "perhaps an expression", "methods"] : List Str) := by decide +kernel
theorem g_three {T : Addr} {i j l : Nat} {u : V} {Qc : L2.St → Hp → Prop} (h : SqT K H T [x, y, u]) (q : Qc (((σ.set i (some x)).set j (some y)).set l (some u)) H) : gTup K 3 (gCons (gName i) (gCons (gName j) (gCons (gName l) gNil))) (.ref T) σ H Qc :=
  ⟨T, [x, y, u], rfl, h, rfl, x, [y, u], rfl, y, [u], rfl, u, [], rfl, rfl, q⟩
theorem Lay.le {a Rr Pm B : Addr} {n m : Nat} (l : Lay K a Rr Pm B n H) (h : n ≤ m) : Lay K a Rr Pm B m H := by
  obtain ⟨o, ne, ⟨rs, hr, r2⟩, ⟨ps, hp, p2⟩, ⟨bs, hb, b2⟩⟩ := l
  exact ⟨o, ne, ⟨rs, hr, by omega⟩, ⟨ps, hp, by omega⟩, ⟨bs, hb, by omega⟩⟩
theorem er_lst0 : EvR (tLst tNil) σ H (fun _ _ => True) := fun H1 e Q q => ⟨by decide, fun p hp => q _ _ (Ex.new hp) trivial⟩
theorem er_lst1 {xs : List V} (h : EvU te σ H xs) : EvR (tLst (tCons te tNil)) σ H (fun v H' => ∃ Rr u, v = .ref Rr ∧ H Rr = none ∧ H' Rr = some (.lst [u])) := by
  intro H1 e Q q
  unfold tLst tCons tNil
  refine h H1 e _ fun p H2 hp e2 h2 => ⟨sz_of (by simp), fun Rr hR => q _ _ (e2.trans (Ex.new hR)) ⟨Rr, _, rfl, fresh_back (e.trans e2) hR, upd_same⟩⟩
theorem f_layout (z : Cz w K mg) : Mkr P w K mg base 45 "Layout" (SpLay K) := by
  have c_survey := f_survey (P := P) (base := base) z
  have m__keep := f_keep (P := P) (base := base) z
  refine mkr_of (k := 44) z.mkr_Layout z.fn_Layout_init z.glo_Layout K0.c_Layout_init (fun vs H Q E h => ?_) (fun cdv A outer s H vs Q _ hr h => ?_)
  · obtain ⟨a, dx, b, x, t, rfl, _⟩ := h
    rfl
  · obtain ⟨a, dx, b, x, t, rfl, ha, hb, r, ad, hdd, hok, good, k⟩ := h
    have hs : stmtB t = true := (Bool.and_eq_true_iff.mp good).1
    refine ⟨_, (pss_cons (ps_asg (pe_c c_survey hr (by first | decide | omega) (by rfl) (pa_cons (pv 1) pa_nil)) (show PG _ _ (gTup K 2 (gCons (gName 2) (gCons (gName 3) gNil))) from by refine pg_tup rfl (pgs_cons ?g0 (pgs_cons ?g1 pgs_nil)); (case g0 => exact (pg_name (i := 2) K0.c_Layout_init.nd rfl (.inl rfl))); (case g1 => exact (pg_name (i := 3) K0.c_Layout_init.nd rfl (.inl rfl)))))
      (pss_cons (ps_fld (pv 0) (pe_lc (own := [("path", 4), ("_", 3)]) rfl K0.c_Layout_init.nd (pi_list (pv 2)) (blkOk_by (N := N_Layout_init) (sc := defScope s_Layout_init) (by decide +kernel)) (fun _ _ _ _ _ => (show PG _ _ (gTup K 3 (gCons (gName 4) (gCons (gName 3) (gCons (gName 3) gNil)))) from by refine pg_tup rfl (pgs_cons ?g0 (pgs_cons ?g1 (pgs_cons ?g2 pgs_nil))); (case g0 => exact (pg_name (i := 4) K0.c_Layout_init.nd rfl (.inl rfl))); (case g1 => exact (pg_name (i := 3) K0.c_Layout_init.nd rfl (.inl rfl))); (case g2 => exact (pg_name (i := 3) K0.c_Layout_init.nd rfl (.inl rfl))))) (fun _ _ _ _ _ => pts_nil) (fun _ _ _ _ _ => (pv 4))) rfl)
      (pss_cons (ps_fld (pv 0) (pe_dcT (own := [("path", 4), ("statement", 5), ("_", 3)]) (Nat.lt_of_succ_lt (hu_of hr)) rfl K0.c_Layout_init.nd (pi_list (pv 2)) (blkOk_by (N := N_Layout_init) (sc := defScope s_Layout_init) (by decide +kernel)) (fun _ _ _ _ _ => (show PG _ _ (gTup K 3 (gCons (gName 4) (gCons (gName 5) (gCons (gName 3) gNil)))) from by refine pg_tup rfl (pgs_cons ?g0 (pgs_cons ?g1 (pgs_cons ?g2 pgs_nil))); (case g0 => exact (pg_name (i := 4) K0.c_Layout_init.nd rfl (.inl rfl))); (case g1 => exact (pg_name (i := 5) K0.c_Layout_init.nd rfl (.inl rfl))); (case g2 => exact (pg_name (i := 3) K0.c_Layout_init.nd rfl (.inl rfl))))) (fun _ _ _ _ _ => pts_nil) (fun _ _ _ _ _ => (pv 4)) (fun _ _ _ _ _ => (pv 5))) rfl)
      (pss_cons (ps_fld (pv 0) (pe_lst (pa_cons (pe_tup pa_nil) pa_nil)) rfl)
      (pss_cons (ps_fld (pv 0) (pe_disp1 (Nat.lt_of_succ_lt (hu_of hr)) (pe_tup pa_nil) (pv 1)) rfl)
      (pss_cons (ps_fld (pv 0) (pe_disp1 (Nat.lt_of_succ_lt (hu_of hr)) (pe_tup pa_nil) (pe_lst pa_nil)) rfl)
      (pss_one (ps_for PassesOwn.never rfl (pi_list (pv 2)) (show PG _ _ (gTup K 3 (gCons (gName 4) (gCons (gName 5) (gCons (gName 3) gNil)))) from by refine pg_tup rfl (pgs_cons ?g0 (pgs_cons ?g1 (pgs_cons ?g2 pgs_nil))); (case g0 => exact (pg_name (i := 4) K0.c_Layout_init.nd rfl (.inl rfl))); (case g1 => exact (pg_name (i := 5) K0.c_Layout_init.nd rfl (.inl rfl))); (case g2 => exact (pg_name (i := 3) K0.c_Layout_init.nd rfl (.inl rfl)))) (pss_one (ps_if (pt_cmpR op_eq (pe_ix (show IxR _ (rIxT K) from ix_tup) (pv 5) pe_int (fun _ _ => rfl)) pe_str (nomark _)) (pss_one (ps_expr (pe_mto m__keep hr (by first | decide | omega) (pv 0) (pa_cons (pe_op (show OpR _ _ (rCatA K) from op_catA) (pv 4) (pe_tup (pa_cons pe_int pa_nil))) (pa_cons (pe_ix (show IxR _ (rIxT K) from ix_tup) (pv 5) pe_int (fun _ _ => rfl)) (pa_cons (pe_ix (show IxR _ (rIxT K) from ix_tup) (pv 5) pe_int (fun _ _ => rfl)) pa_nil)))))) (pss_one (ps_if (pt_cmpR op_eq (pe_ix (show IxR _ (rIxT K) from ix_tup) (pv 5) pe_int (fun _ _ => rfl)) pe_str (nomark _)) (pss_one (ps_for PassesOwn.never rfl (pi_enum (by rfl) z.free_enumerate (pa_cons (pe_ix (show IxR _ (rIxT K) from ix_tup) (pv 5) pe_int (fun _ _ => rfl)) pa_nil)) (show PG _ _ (gTup K 2 (gCons (gName 6) (gCons (gTup K 3 (gCons (gName 3) (gCons (gName 7) (gCons (gName 8) gNil)))) gNil))) from by refine pg_tup rfl (pgs_cons ?g0 (pgs_cons ?g1 pgs_nil)); (case g0 => exact (pg_name (i := 6) K0.c_Layout_init.nd rfl (.inl rfl))); (case g1 => exact (show PG _ _ (gTup K 3 (gCons (gName 3) (gCons (gName 7) (gCons (gName 8) gNil)))) from by refine pg_tup rfl (pgs_cons ?g0 (pgs_cons ?g1 (pgs_cons ?g2 pgs_nil))); (case g0 => exact (pg_name (i := 3) K0.c_Layout_init.nd rfl (.inl rfl))); (case g1 => exact (pg_name (i := 7) K0.c_Layout_init.nd rfl (.inl rfl))); (case g2 => exact (pg_name (i := 8) K0.c_Layout_init.nd rfl (.inl rfl)))))) (pss_one (ps_expr (pe_mto m__keep hr (by first | decide | omega) (pv 0) (pa_cons (pe_op (show OpR _ _ (rCatA K) from op_catA) (pv 4) (pe_tup (pa_cons (pv 6) pa_nil))) (pa_cons (pv 7) (pa_cons (pv 8) pa_nil)))))))) pss_nil)))))))))))), ?_⟩
    refine q_rg (er_survey (x := x) (ev_var rfl) hb r ad hdd fun _ => hok) fun v H1 e1 ⟨pp, F, pv, hv, _, _, hpp, hif⟩ => ?_
    subst hv
    rw [good, if_pos rfl] at hif
    obtain ⟨hpv, row, pl, hF, p, q, hrow, hp, hq⟩ := hif
    subst hpv
    subst hrow
    refine g_pair hpp ?_
    have ha1 := e1 _ _ ha
    have ia : IsIns H1 a := ⟨_, _, _, ha1⟩
    show tSeq _ _ _ [some (.ref a), some (.ref b), some (.ref F), some .non, none, none, none, none, none] H1
    -- order
    refine q_fld (er_lc (ev_var rfl) (sq_of hF) (by simp) fun i x0 H3 e3 hx Qc kc => ?_) (ev_var rfl) ha1 z.cls_Layout z.noat_Layout_order (by decide) fun y2 H2 H3 e2 _ e3 => ?_
    · have hx0 : x0 = .ref p := by
        cases i with
        | zero => exact (Option.some.inj hx).symm
        | succ i => simp at hx
      subst hx0
      exact g_three (st_of (e3 _ _ hp)) (kc _ rfl ⟨_, ev_var rfl⟩)
    have x3 : ExO a H1 (upd H3 a (.ins (layC K) dx (putF "order" y2 []))) := (ExO.of (e2.trans e3)).upd
    have a3 : (upd H3 a (.ins (layC K) dx (putF "order" y2 []))) a = some (.ins (layC K) dx (putF "order" y2 [])) := upd_same
    generalize upd H3 a (.ins (layC K) dx (putF "order" y2 [])) = H4 at x3 a3
    have n3 : (putF "order" y2 []).length ≤ 1 := putF_le "order" y2 []
    have hF4 := x3.at ia hF (fun _ _ _ q => nomatch q)
    have hp4 := x3.at ia hp (fun _ _ _ q => nomatch q)
    have hq4 := x3.at ia hq (fun _ _ _ q => nomatch q)
    -- statements
    refine q_fld (er_dc (x0 := .ref p) (ev_var rfl) (sq_of hF4) fun H5 e5 Qc kc => ?_) (ev_var rfl) a3 z.cls_Layout z.noat_Layout_statements (by omega) fun y5 H5 H6 e5 _ e6 => ?_
    · exact g_three (st_of (e5 _ _ hp4)) (kc _ rfl ⟨[.inl 0], q, x, ev_var rfl, e5 _ _ hq4, ev_var rfl⟩)
    have x6 : ExO a H1 (upd H6 a (.ins (layC K) dx (putF "statements" y5 (putF "order" y2 [])))) := (x3.trans (ExO.of (e5.trans e6))).upd
    have a6 : (upd H6 a (.ins (layC K) dx (putF "statements" y5 (putF "order" y2 [])))) a = some (.ins (layC K) dx (putF "statements" y5 (putF "order" y2 []))) := upd_same
    have n6 := putF_le "statements" y5 (putF "order" y2 [])
    generalize upd H6 a (.ins (layC K) dx (putF "statements" y5 (putF "order" y2 []))) = H7 at x6 a6
    -- routines
    refine q_fld (er_lst1 (eu_tup ea_nil (by decide))) (ev_var rfl) a6 z.cls_Layout z.noat_Layout_routines (by omega) fun y8 H8 H9 e8 ⟨Rr, u, hy8, hR7, hR8⟩ e9 => ?_
    subst hy8
    have nRa : Rr ≠ a := fun zz => by rw [zz, a6] at hR7; cases hR7
    generalize hfs9 : putF "routines" (.ref Rr) (putF "statements" y5 (putF "order" y2 [])) = fs9
    have n9 : fs9.length ≤ 3 := by
      have := putF_le "routines" (.ref Rr) (putF "statements" y5 (putF "order" y2 []))
      rw [hfs9] at this
      omega
    have l9 : ∀ f, fs9.lookup f = if f = "routines" then some (.ref Rr) else (putF "statements" y5 (putF "order" y2 [])).lookup f := fun f => by
      rw [← hfs9]
      rw [lookup_putF]
    have x9 : ExO a H1 (upd H9 a (.ins (layC K) dx fs9)) := (x6.trans (ExO.of (e8.trans e9))).upd
    have a9 : (upd H9 a (.ins (layC K) dx fs9)) a = some (.ins (layC K) dx fs9) := upd_same
    have r9 : (upd H9 a (.ins (layC K) dx fs9)) Rr = some (.lst [u]) := by
      rw [upd_ne nRa]
      exact e9 _ _ hR8
    generalize upd H9 a (.ins (layC K) dx fs9) = H10 at x9 a9 r9
    have hR1 : H1 Rr = none := by
      cases hh : H1 Rr with
      | none => rfl
      | some o =>
        have := x6 Rr o nRa hh
        rw [hR7] at this
        cases this
    -- bodies
    refine q_fld (er_disp1 fun H0 e0 => (EvR.of (ev_var rfl)).imp fun _ _ _ _ => trivial) (ev_var rfl) a9 z.cls_Layout z.noat_Layout_bodies (by omega) fun y11 H11 H12 e11 ⟨B, bs, hy11, hB10, hB11, hbl⟩ e12 => ?_
    subst hy11
    have nBa : B ≠ a := fun zz => by rw [zz, a9] at hB10; cases hB10
    generalize hfs12 : putF "bodies" (.ref B) fs9 = fs12
    have n12 : fs12.length ≤ 4 := by
      have := putF_le "bodies" (.ref B) fs9
      rw [hfs12] at this
      omega
    have l12 : ∀ f, fs12.lookup f = if f = "bodies" then some (.ref B) else fs9.lookup f := fun f => by
      rw [← hfs12]
      rw [lookup_putF]
    have x12 : ExO a H1 (upd H12 a (.ins (layC K) dx fs12)) := (x9.trans (ExO.of (e11.trans e12))).upd
    have a12 : (upd H12 a (.ins (layC K) dx fs12)) a = some (.ins (layC K) dx fs12) := upd_same
    have r12 : (upd H12 a (.ins (layC K) dx fs12)) Rr = some (.lst [u]) := by
      rw [upd_ne nRa]
      exact (e11.trans e12) _ _ r9
    have b12 : (upd H12 a (.ins (layC K) dx fs12)) B = some (.dT bs) := by
      rw [upd_ne nBa]
      exact e12 _ _ hB11
    have hB1 : H1 B = none := by
      cases hh : H1 B with
      | none => rfl
      | some o =>
        have := x9 B o nBa hh
        rw [hB10] at this
        cases this
    generalize upd H12 a (.ins (layC K) dx fs12) = H13 at x12 a12 r12 b12
    -- parameters
    refine q_fld (er_disp1 fun H0 e0 => (er_lst0 (σ := _) (H := H0)).imp fun _ _ _ _ => trivial) (ev_var rfl) a12 z.cls_Layout z.noat_Layout_parameters (by omega) fun y14 H14 H15 e14 ⟨Pm, ps, hy14, hP13, hP14, hpl⟩ e15 => ?_
    subst hy14
    have nPa : Pm ≠ a := fun zz => by rw [zz, a12] at hP13; cases hP13
    have nPB : Pm ≠ B := fun zz => by rw [zz, b12] at hP13; cases hP13
    generalize hfs15 : putF "parameters" (.ref Pm) fs12 = fs15
    have l15 : ∀ f, fs15.lookup f = if f = "parameters" then some (.ref Pm) else fs12.lookup f := fun f => by
      rw [← hfs15]
      rw [lookup_putF]
    have x15 : ExO a H1 (upd H15 a (.ins (layC K) dx fs15)) := (x12.trans (ExO.of (e14.trans e15))).upd
    have a15 : (upd H15 a (.ins (layC K) dx fs15)) a = some (.ins (layC K) dx fs15) := upd_same
    have r15 : (upd H15 a (.ins (layC K) dx fs15)) Rr = some (.lst [u]) := by
      rw [upd_ne nRa]
      exact (e14.trans e15) _ _ r12
    have b15 : (upd H15 a (.ins (layC K) dx fs15)) B = some (.dT bs) := by
      rw [upd_ne nBa]
      exact (e14.trans e15) _ _ b12
    have p15 : (upd H15 a (.ins (layC K) dx fs15)) Pm = some (.dT ps) := by
      rw [upd_ne nPa]
      exact e15 _ _ hP14
    have hP1 : H1 Pm = none := by
      cases hh : H1 Pm with
      | none => rfl
      | some o =>
        have := x12 Pm o nPa hh
        rw [hP13] at this
        cases this
    generalize upd H15 a (.ins (layC K) dx fs15) = H16 at x15 a15 r15 b15 p15
    have L16 : Lay K a Rr Pm B 1 H16 := by
      refine ⟨⟨dx, fs15, a15, ?_, ?_, ?_, ?_⟩, nPB, ⟨_, r15, by simp⟩, ⟨_, p15, hpl⟩, ⟨_, b15, hbl⟩⟩
      · rw [l15, if_neg (by decide), l12, if_neg (by decide), l9, if_pos rfl]
      · rw [l15, if_pos rfl]
      · rw [l15, if_neg (by decide), l12, if_pos rfl]
      · rw [l15, if_neg (by decide), l12, if_neg (by decide), l9, if_neg (by decide), lookup_putF, if_neg (by decide), lookup_putF, if_neg (by decide)]
        rfl
    clear l15 l12 l9 a15 r15 b15 p15 a12 r12 b12 a9 r9
    have r1 : Rep K H1 x t := r.mono e1
    obtain ⟨w0, ll, ts, hts, hw0, hll, hlen, hpp2⟩ := stmt_parts hs
    subst hts
    -- the loop over the rows
    refine s_forL (xs := [.ref p]) (ev_var rfl) (sq_of (x15.at ia hF fun _ _ _ q => nomatch q)) (fun i σ' H' => (∃ s3 s4 s5 s6 s7 s8, σ' = [some (.ref a), some (.ref b), some (.ref F), s3, s4, s5, s6, s7, s8]) ∧ ExO a H1 H' ∧ Lay K a Rr Pm B (1 + 10 * i) H')
      (fun H17 e17 => ⟨⟨_, _, _, _, _, _, rfl⟩, x15.trans (ExO.of e17), L16.mono e17⟩) (fun i σ' H' _ q => sq_of (q.2.1.at ia hF fun _ _ _ q => nomatch q)) ?_ (fun σ' H' q => k H' ((ExO.of e1).trans q.2.1))
    rintro i x0 σ' H' hx ⟨⟨s3, s4, s5, s6, s7, s8, rfl⟩, xx, LL⟩
    have hi : i = 0 := by
      cases i with
      | zero => rfl
      | succ i => simp at hx
    subst hi
    have hx0 : x0 = .ref p := (Option.some.inj hx).symm
    subst hx0
    refine g_three (st_of (xx.at ia hp fun _ _ _ q => nomatch q)) ?_
    show tIfS _ _ _ _ [some (.ref a), some (.ref b), some (.ref F), some (.ref pl), some (.ref q), some x, s6, s7, s8] H'
    have rr := Rep.exi ia xx r1
    have hq' := xx.at ia hq fun _ _ _ q => nomatch q
    obtain ⟨v0, rv0, ev0⟩ := ev_item (i := 0) (ta := tVar 5) (σ := [some (.ref a), some (.ref b), some (.ref F), some (.ref pl), some (.ref q), some x, s6, s7, s8]) (ev_var rfl) rr (show (Th.str w0 :: ts)[0]? = some (.str w0) from rfl)
    cases rv0
    refine s_if (b := decide (w0 = "def")) (et_test (ev_op ev0 ev_c rv_sEq)) (fun hb H17 e17 => ?_) (fun hb H17 e17 => ?_)
    · have hc : w0 = "def" := of_decide_eq_true hb
      subst hc
      rw [lk_def] at hll
      cases hll
      obtain ⟨t2, h2⟩ : ∃ u, ts[1]? = some u := ⟨ts[1]'(by rw [hlen]; decide), by simp⟩
      obtain ⟨t3, h3⟩ : ∃ u, ts[2]? = some u := ⟨ts[2]'(by rw [hlen]; decide), by simp⟩
      obtain ⟨v2, rv2, ev2⟩ := ev_item (i := 2) (ta := tVar 5) (σ := [some (.ref a), some (.ref b), some (.ref F), some (.ref pl), some (.ref q), some x, s6, s7, s8]) (ev_var rfl) (rr.mono e17) (show (Th.str "def" :: ts)[2]? = some t2 from h2)
      obtain ⟨v3, rv3, ev3⟩ := ev_item (i := 3) (ta := tVar 5) (σ := [some (.ref a), some (.ref b), some (.ref F), some (.ref pl), some (.ref q), some x, s6, s7, s8]) (ev_var rfl) (rr.mono e17) (show (Th.str "def" :: ts)[3]? = some t3 from h3)
      refine s_keep (k := [.inl 0, .inl 0]) (ev_var rfl) (LL.mono e17) (by omega) ((er_cat (ks := [.int 0]) (ev_var rfl) (st_of (e17 _ _ hq')) (by simp) ev_c).imp fun v H2 _ h => h) ev2 ev3 fun H18 H19 e18 lx l19 => ?_
      refine ⟨⟨_, _, _, _, _, _, rfl⟩, Lx.ex (xx.trans (ExO.of (e17.trans e18))) hR1 hP1 hB1 lx, ?_⟩
      exact l19.le (by omega)
    · have nd : ¬ w0 = "def" := of_decide_eq_false hb
      refine s_when (b := decide (w0 = "class")) (et_test (ev_op (Ev.mono e17 ev0) ev_c rv_sEq)) (fun hb2 H18 e18 => ?_) (fun hb2 H18 e18 => ⟨⟨_, _, _, _, _, _, rfl⟩, xx.trans (ExO.of (e17.trans e18)), (LL.mono (e17.trans e18)).le (by omega)⟩)
      have hc : w0 = "class" := of_decide_eq_true hb2
      subst hc
      rw [lk_class] at hll
      cases hll
      obtain ⟨t3, h3⟩ : ∃ u, ts[2]? = some u := ⟨ts[2]'(by rw [hlen]; decide), by simp⟩
      have hm := part_methods (hpp2 2 "methods" t3 rfl h3)
      have x18 := xx.trans (ExO.of (e17.trans e18))
      obtain ⟨ax, vx, hxa, hT1, rs1⟩ : ∃ ax vx, x = .ref ax ∧ SqT K H1 ax vx ∧ Reps K H1 vx (.str "class" :: ts) := by
        cases r1 with
        | tup h r => exact ⟨_, _, rfl, h, r⟩
      subst hxa
      obtain ⟨v3, hv3, rv3⟩ := rs1.get' (i := 3) (t := t3) h3
      have ev3' : Ev (tOp (rIxT K) (tVar 5) (tC (.int ((3 : Nat) : Int)))) [some (.ref a), some (.ref b), some (.ref F), some (.ref pl), some (.ref q), some (.ref ax), s6, s7, s8] H18 v3 := ev_ixT (ev_var rfl) (x18.sqtI ia hT1) hv3
      cases rv3 with
      | lst hM rM =>
        rename_i am vs ms
        obtain ⟨m1, m2⟩ := Bool.and_eq_true_iff.mp (show (decide (ms.length ≤ 4) && (ms.all methodB && decide (dc (ms.map headOf) = ms.length))) = true from hm)
        have hmm : ms.length ≤ 4 := of_decide_eq_true m1
        have hmb := (Bool.and_eq_true_iff.mp m2).1
        have hml := rM.length
        refine s_forE (EvR.of ev3') fun v H19 e19 hv => ?_
        subst hv
        refine ⟨am, vs, rfl, sq_of ((x18.trans (ExO.of e19)).at ia hM fun _ _ _ q => nomatch q), fun j σ' H' => (∃ s3 s6 s7 s8, σ' = [some (.ref a), some (.ref b), some (.ref F), s3, some (.ref q), some (.ref ax), s6, s7, s8]) ∧ ExO a H1 H' ∧ Lay K a Rr Pm B (1 + j) H', ⟨⟨_, _, _, _, rfl⟩, x18.trans (ExO.of e19), (LL.mono ((e17.trans e18).trans e19)).le (by omega)⟩, ?_, ?_, ?_⟩
        · rintro j σ' H' _ ⟨_, y1, _⟩
          exact sq_of (y1.at ia hM fun _ _ _ q => nomatch q)
        · rintro j y σ' H20 T hy ⟨⟨s3', s6', s7', s8', rfl⟩, y2, LJ⟩ hT
          have hj : j < 4 := by
            have := (List.getElem?_eq_some_iff.mp hy).1
            omega
          obtain ⟨mt, hmt, rmt⟩ := rM.get hy
          have hmt2 := List.all_eq_true.mp hmb mt (List.mem_of_getElem? hmt)
          have rmt2 := (Rep.exi ia y2 rmt).mono (Ex.new hT (o := .tup [.int (j : Nat), y]))
          have hq2 := (Ex.new hT (o := .tup [.int (j : Nat), y])) _ _ (y2.at ia hq fun _ _ _ q => nomatch q)
          unfold methodB at hmt2
          split at hmt2
          · rename_i n0 ps0 b0
            cases rmt2 with
            | tup hTm rTm =>
              rename_i ay us
              obtain ⟨u0, hu0, ru0⟩ := rTm.get' (i := 0) (t := n0) rfl
              obtain ⟨u1, hu1, ru1⟩ := rTm.get' (i := 1) (t := .lst ps0) rfl
              obtain ⟨u2, hu2, ru2⟩ := rTm.get' (i := 2) (t := b0) rfl
              have hus : us = [u0, u1, u2] := by
                have hl3 := rTm.length
                match us, hl3 with
                | [c0, c1, c2], _ =>
                  cases hu0
                  cases hu1
                  cases hu2
                  rfl
              subst hus
              refine ⟨T, [.int (j : Nat), .ref ay], rfl, st_of upd_same, rfl, _, _, rfl, _, _, rfl, ?_⟩
              refine g_three hTm ?_
              refine ⟨rfl, ?_⟩
              refine s_keep (k := [.inl 0, .inl (j : Nat)]) (ev_var rfl) (LJ.mono (Ex.new hT)) (by omega) ((er_cat (ks := [.int 0]) (ev_var rfl) (st_of hq2) (by simp) (ev_var rfl)).imp fun v H2 _ h => h) (ev_var rfl) (ev_var rfl) fun H21 H22 e21 lx l22 => ?_
              have lz := Lx.ex (a := a) (y2.trans (ExO.of ((Ex.new hT).trans e21))) hR1 hP1 hB1 lx
              refine ⟨⟨_, _, _, _, rfl⟩, lz, l22.le (by omega)⟩
          · cases hmt2
        · rintro σ' H' ⟨⟨s3', s6', s7', s8', rfl⟩, y2, LJ⟩
          exact ⟨⟨_, _, _, _, _, _, rfl⟩, y2, LJ.le (by omega)⟩
      | _ => cases hm
end
end K0
/-! ## K0V -/
set_option Elab.async false
set_option linter.all false
set_option maxRecDepth 100000
set_option maxHeartbeats 4000000
namespace K0
open PySem PySem.Spec PyProof.Rows L2 Evl RZ KB
section
variable {P : Program} {w : World} {K : PySem.W.Frag} {mg : Str → Option Value} {base : Heap} {σ : L2.St} {H H' H0 : Hp} {ta tb tc td te tl tv tk to : TE} {x y kv : V} {X0 : XK} {tu tz : TS} {D : Ends} {g : TG} {R : V → Hp → Prop}
def noP (K : PySem.W.Frag) : Addr := He.ga K "NoProgram"
def SpNo (K : PySem.W.Frag) : Sp := fun vs H Q _ => ∃ a v, vs = [.ref a, v] ∧ H a = some (exo a (noP K) none) ∧ ∀ dx, H dx = none → dx ≠ a → Q .non (upd (upd H dx (exd dx [(("path" : Str), v)])) a (exo a (noP K) (some dx)))
theorem f_noprogram (z : Cz w K mg) : ∃ fd ps, FnOk P w K mg base CX0 1 (He.ma K (noP K) "__init__") fd ps (SpNo K) ∧ Binds K fd ps [] := by
  obtain ⟨fd, F, b⟩ := z.fn_NoProgram_init
  refine ⟨fd, _, F.ok (k := 0) K0.c_NoProgram_init (fun vs H Q E h => ?_) (fun cdv A outer s H vs Q E hr h => ?_), b⟩
  · obtain ⟨a, v, rfl, _⟩ := h
    rfl
  · obtain ⟨a, v, rfl, ha, k⟩ := h
    refine ⟨_, pss_one (ps_ost (pv 0) (pv 1)), ?_⟩
    exact ⟨v, rfl, .ref a, rfl, a, noP K, rfl, z.oex_NoProgram, z.exno_NoProgram_path, .inl ⟨ha, fun dx h1 h2 => k dx h1 h2⟩⟩
def progC (K : PySem.W.Frag) : Addr := He.ga K "Program"
/-- what we ask of the one statement of a block -/
structure One (t : Th) : Prop where
  ad : Adm t
  dd : dpL (ofT exOf1 t) < 40
  dp : dpT t < 38
  ok : stmtB t = true → Adm (.lst (ofT exOf1 t)) ∧ (ofT blOf1 t).length ≤ 1000 ∧ ∀ u ∈ ofT blOf1 t, u = .lst []
def goodB (t : Th) : Bool := stmtB t && fitsB t 1 "top" false
def SpProg (K : PySem.W.Frag) : Sp := fun vs H Q E => ∃ a dx b x t, vs = [.ref a, .ref b] ∧ H a = some (.ins (progC K) dx []) ∧ H b = some (.lst [x]) ∧ Rep K H x t ∧ One t ∧ (goodB t = true → ∀ H', ExO a H H' → Q .non H') ∧
  (goodB t = false → ∀ q d H', ExO a H H' → H d = none → H' q = some (.tup [.int 0]) → H' d = some (.xd [(("path" : Str), .ref q)]) → E (.ref (noP K)) (some d) H')
theorem szL_one {t : Th} (h : Adm t) : Adm (.lst [t]) := by
  refine ⟨?_, ?_⟩
  · show (decide ([t].length ≤ 1000) && (szB t && true)) = true
    rw [h.sz]
    rfl
  · show (flB t && true) = true
    rw [h.fl]
    rfl
theorem er_fresh {E : XK} {d : Nat} {t : Th} (h : Ev ta σ H x) (r : Rep K H x t) (ad : Adm t) (hd : dpT t < d) : EvR (tCall (SpFr K d) [] E (tCons ta tNil)) σ H (fun v H' => RepN K H H' v t) := fun H1 e Q q =>
  ea_cons h ea_nil H1 e _ fun H2 e2 => ⟨x, t, rfl, r.mono (e.trans e2), ad, hd, fun v H3 e3 rv => q v H3 (e2.trans e3) (rv.base (Dm.of (e.trans e2)))⟩
theorem er_layout {E : XK} {b : Addr} {t : Th} (h : Ev ta σ H (.ref b)) (hb : H b = some (.lst [x])) (r : Rep K H x t) (o : One t) (good : goodB t = true) : EvR (tMake (He.ga K "Layout") (SpLay K) [] E (tCons ta tNil)) σ H (fun _ _ => True) := fun H1 e Q q =>
  ea_cons h ea_nil H1 e _ fun H2 e2 => fun a dx ha hd hne => by
    have e3 : Ex H2 (upd (upd H2 dx (.own a)) a (.ins (He.ga K "Layout") dx [])) := ((Ex.new hd).mut ha)
    refine ⟨a, dx, b, x, t, rfl, upd_same, e3 _ _ ((e.trans e2) _ _ hb), r.mono ((e.trans e2).trans e3), o.ad, o.dd, o.ok (Bool.and_eq_true_iff.mp good).1, good, fun H' x4 => ⟨rfl, q _ H' (e2.trans fun z u hz => ?_) trivial⟩⟩
    have nz : z ≠ a := fun zz => by rw [zz, ha] at hz; cases hz
    exact x4 z u nz (e3 _ _ hz)
theorem f_program (z : Cz w K mg) : ∃ fd ps, FnOk P w K mg base (L2.CX P w) 47 (He.ma K (progC K) "__init__") fd ps (SpProg K) ∧ Binds K fd ps [] := by
  have c_survey := f_survey (P := P) (base := base) z
  have c_fresh := f_fresh (P := P) (base := base) z 40
  have m_Layout := f_layout (P := P) (base := base) z
  obtain ⟨fdN, psN, FN, bN⟩ := f_noprogram (P := P) (base := base) z
  obtain ⟨fd, F, b⟩ := z.fn_Program_init
  refine ⟨fd, _, F.ok (k := 46) K0.c_Program_init (fun vs H Q E h => ?_) (fun cdv A outer s H vs Q E hr h => ?_), b⟩
  · obtain ⟨a, dx, b, x, t, rfl, _⟩ := h
    rfl
  · obtain ⟨a, dx, b, x, t, rfl, ha, hb, r, o, kg, kb⟩ := h
    refine ⟨_, (pss_cons (ps_if (PW.pt (pw_or (pt_not (pt_val (pe_callB call_isi (by rfl) z.free_isinstance boot_isinstance (pa_cons (pv 1) (pa_cons (pe_bty (T := "list") z.free_list (by decide +kernel)) pa_nil))))) (pw_or1 (pt_cmpR op_gt (pe_callB call_len_seq (by rfl) z.free_len PySem.boot_len (pa_cons (pv 1) pa_nil)) (pe_gi z.int_MOST_IN_BLOCK) (nomark _))))) (pss_one ps_never) pss_nil)
      (pss_cons (ps_asg (pe_c c_survey hr (by first | decide | omega) (by rfl) (pa_cons (pv 1) pa_nil)) (show PG _ _ (gTup K 2 (gCons (gName 2) (gCons (gName 3) gNil))) from by refine pg_tup rfl (pgs_cons ?g0 (pgs_cons ?g1 pgs_nil)); (case g0 => exact (pg_name (i := 2) K0.c_Program_init.nd rfl (.inl rfl))); (case g1 => exact (pg_name (i := 3) K0.c_Program_init.nd rfl (.inl rfl)))))
      (pss_cons (ps_if (pt_cmpR op_notN (pv 3) pe_non (nomark _)) (pss_one (ps_raise rfl (takes_of rfl rfl rfl rfl) (pmk_oex z.oex_NoProgram z.exini_NoProgram z.exfun_NoProgram FN (hr.mono (by decide)) bN .nil pass0 (by rfl) z.glo_NoProgram (pa_cons (pv 3) pa_nil)))) pss_nil)
      (pss_cons (ps_fld (pv 0) (pe_c c_fresh hr (by first | decide | omega) (by rfl) (pa_cons (pv 1) pa_nil)) rfl)
      (pss_one (ps_fld (pv 0) (pe_mkr m_Layout hr (by first | decide | omega) (by rfl) (pa_cons (pe_fld (pv 0) rfl) pa_nil)) rfl)))))), ?_⟩
    refine q_when (b := false) (et_is (et_or (et_not (et_B (ev_isi tys_list (ev_var rfl) (Rep.lst hb (.cons r .nil))))) fun _ => et_test (ev_op (ev_lenL (ev_var rfl) (sq_of hb)) ev_c rv_I0)) ?_) (fun hh => nomatch hh) (fun _ H1 e1 => ?_)
    · rw [isB_list]
      rfl
    refine q_rg (er_survey (x := x) (ev_var rfl) (e1 _ _ hb) (r.mono e1) o.ad o.dd o.ok) fun v H2 e2 ⟨pp, F2, pv, hv, _, _, hpp, hif⟩ => ?_
    subst hv
    refine g_pair hpp ?_
    show tSeq _ _ _ [some (.ref a), some (.ref b), some (.ref F2), some pv] H2
    by_cases good : goodB t = true
    · rw [show (stmtB t && fitsB t 1 "top" false) = true from good, if_pos rfl] at hif
      obtain ⟨hpv, -⟩ := hif
      subst hpv
      refine q_when (b := false) (et_is (et_test (ev_op (ev_var rfl) ev_c rv_notN)) rfl) (fun hh => nomatch hh) (fun _ H3 e3 => ?_)
      have e13 := (e1.trans e2).trans e3
      refine q_fld (er_fresh (t := .lst [t]) (d := 40) (ev_var rfl) (Rep.lst (e13 _ _ hb) (.cons (r.mono e13) .nil)) (szL_one o.ad) (by have := o.dp; show max (dpT t) 0 + 1 < 40; omega)) (ev_var rfl) (e13 _ _ ha) z.cls_Program z.noat_Program__top (by decide) fun y H4 H5 e4 ry e5 => ?_
      have e15 := (e13.trans e4).trans e5
      have ia5 : IsIns H5 a := ⟨_, _, _, e15 _ _ ha⟩
      have ry5 := (ry.mono e5).rep
      cases ry5 with
      | lst hL rs =>
        rename_i b5 vs5
        cases rs with
        | cons rx rn =>
          cases rn
          rename_i x5
          have x6 : ExO a H5 (upd H5 a (.ins (progC K) dx (putF "_top" (.ref b5) []))) := (ExO.of (Ex.refl _)).upd
          have a6 : (upd H5 a (.ins (progC K) dx (putF "_top" (.ref b5) []))) a = some (.ins (progC K) dx (putF "_top" (.ref b5) [])) := upd_same
          generalize upd H5 a (.ins (progC K) dx (putF "_top" (.ref b5) [])) = H6 at x6 a6
          have n6 := putF_le "_top" (.ref b5) []
          refine r_fld (D := { nx := _, rt := _ }) (er_layout (x := x5) (b := b5) (ev_fld (ev_var rfl) a6 z.cls_Program z.noat_Program__top (by rw [lookup_putF, if_pos rfl])) (x6.at ia5 hL fun _ _ _ q => nomatch q) (Rep.exi ia5 x6 rx) o good) (ev_var rfl) a6 z.cls_Program z.noat_Program_layout (by simp only [List.length_nil] at n6; omega) fun y7 H7 H8 e7 _ e8 => ?_
          exact kg good _ ((((ExO.of e15).trans x6).trans (ExO.of (e7.trans e8))).upd)
    · have bad : goodB t = false := by simpa using good
      rw [show (stmtB t && fitsB t 1 "top" false) = false from bad, if_neg (by decide)] at hif
      obtain ⟨q, hpv, hq, -⟩ := hif
      subst hpv
      refine q_when (b := true) (et_is (et_test (ev_op (ev_var rfl) ev_c rv_notN)) rfl) (fun _ H3 e3 => ?_) (fun hh => nomatch hh)
      refine ea_cons (ev_var rfl) ea_nil H3 (Ex.refl _) _ fun H4 e4 => ⟨by simp, fun a2 ha2 => ?_⟩
      refine ⟨a2, .ref q, rfl, upd_same, fun dx2 hd2 hne2 => ?_⟩
      have hd4 : H4 dx2 = none := by
        rw [upd_ne hne2] at hd2
        exact hd2
      refine ⟨rfl, dx2, [(("path" : Str), .ref q)], upd_same, by rw [upd_ne hne2, upd_same], hd4, ?_⟩
      have e14 := ((e1.trans e2).trans e3).trans e4
      have nn : ∀ z u, H4 z = some u → (upd (del (upd (upd (upd H4 a2 (exo a2 (noP K) none)) dx2 (exd dx2 [(("path" : Str), .ref q)])) a2 (exo a2 (noP K) (some dx2))) a2) dx2 (.xd [(("path" : Str), .ref q)])) z = some u := fun z u hz => by
        have n1 : z ≠ a2 := fun zz => by rw [zz, ha2] at hz; cases hz
        have n2 : z ≠ dx2 := fun zz => by rw [zz, hd4] at hz; cases hz
        rw [upd_ne n2, del_ne n1, upd_ne n1, upd_ne n2, upd_ne n1]
        exact hz
      exact kb bad q dx2 _ (fun z u _ hz => nn z u (e14 _ _ hz)) (fresh_back e14 hd4) (nn _ _ ((e3.trans e4) _ _ hq)) upd_same
end
end K0
/-! ## K0W -/
set_option Elab.async false
set_option linter.all false
set_option maxRecDepth 100000
set_option maxHeartbeats 4000000
namespace K0
open PySem PySem.Spec PyProof.Rows L2 Evl RZ KB
section
variable {P : Program} {w : World} {K : PySem.W.Frag} {mg : Str → Option Value} {base : Heap} {σ : L2.St} {H H' H0 : Hp} {ta tb tc td te tl tv tk to : TE} {x y kv : V} {X0 : XK} {tu tz : TS} {D : Ends} {g : TG} {R : V → Hp → Prop}
/-! the source of drawn numbers -/
/-- where the numbers lie, and what stands behind the room -/
structure Sc where
  a : Addr
  m : V
def SrcAt (H : Hp) (s : Addr) (sc : Sc) : Prop := ∃ (cs : List Int) (i : Nat) (c st n no : Int) (ma : V), H s = some (.lst [.ref sc.a, .int (i : Nat), .int c, .int st, .int n, .int no, ma]) ∧ H sc.a = some (.lst (cs.map V.int)) ∧ (cs.length ≤ 1000 ∧ ma = sc.m)
theorem SrcAt.mono {s : Addr} {sc : Sc} (e : Ex H H') (h : SrcAt H s sc) : SrcAt H' s sc := by
  obtain ⟨cs, i, c, st, n, no, ma, h1, h2, h3⟩ := h
  exact ⟨cs, i, c, st, n, no, ma, e _ _ h1, e _ _ h2, h3⟩
theorem src_ne {s : Addr} {sc : Sc} {cs : List Int} {v : Addr} {r : List V} (h1 : H s = some (.lst (.ref v :: r))) (h2 : H sc.a = some (.lst (cs.map V.int))) : sc.a ≠ s := by
  rintro rfl
  rw [h1] at h2
  cases cs with
  | nil => cases h2
  | cons c cs => cases h2
/-- the source changes -/
theorem SrcAt.put {s : Addr} {sc : Sc} {cs : List Int} {i : Nat} {c st n no : Int} {ma : V} {v' : Addr} {r : List V} (h1 : H s = some (.lst (.ref v' :: r))) (h2 : H sc.a = some (.lst (cs.map V.int))) (h3 : cs.length ≤ 1000 ∧ ma = sc.m) : SrcAt (L2.upd H s (.lst [.ref sc.a, .int (i : Nat), .int c, .int st, .int n, .int no, ma])) s sc :=
  ⟨cs, i, c, st, n, no, ma, upd_same, by rw [upd_ne (src_ne h1 h2)]; exact h2, h3⟩
def SpSrc (K : PySem.W.Frag) : Sp := fun vs H Q _ => ∃ b, ∃ cs : List Int, ∃ n m, vs = [.ref b, .int n, .int m] ∧ SqL K H b (cs.map V.int) ∧ cs.length ≤ 1000 ∧ ∀ s sc H', H s = none → Ex H H' → SrcAt H' s sc → sc.m = .int m → Q (.ref s) H'
theorem f_source (z : Cz w K mg) : Cl P w K mg base 1 "_law_source" (SpSrc K) := by
  refine cal_of (k := 0) z.fn__law_source z.glo__law_source K0.c__law_source (fun vs H Q E h => ?_) (fun cdv A outer s H vs Q _ hr h => ?_)
  · obtain ⟨b, cs, n, m, rfl, _⟩ := h
    rfl
  · obtain ⟨b, cs, n, m, rfl, hb, hc, k⟩ := h
    refine ⟨_, (pss_one (ps_ret (pe_lst (pa_cons (pe_callTy call_list_of (by rfl) z.free_list (by decide +kernel) (pa_cons (pv 0) pa_nil)) (pa_cons pe_int (pa_cons pe_int (pa_cons pe_int (pa_cons pe_int (pa_cons (pv 1) (pa_cons (pv 2) pa_nil)))))))))), ?_⟩
    unfold tRet tLst
    refine el_list (ev_var rfl) hb H (Ex.refl H) _ fun p H1 hp e1 h1 => ?_
    exact ea_cons ev_c (ea_cons ev_c (ea_cons ev_c (ea_cons ev_c (ea_cons (ev_var rfl) (ea_cons (ev_var rfl) ea_nil))))) H1 (Ex.refl _) _ fun H2 e2 => ⟨sz_of (by simp), fun s hs => k s ⟨p, .int m⟩ _ (fresh_back (e1.trans e2) hs) ((e1.trans e2).trans (Ex.new hs)) ⟨cs, 0, 0, 1, 0, _, _, upd_same, (e2.trans (Ex.new hs)) _ _ h1, hc, rfl⟩ rfl⟩
def SpDraw (K : PySem.W.Frag) : Sp := fun vs H Q _ => ∃ s sc m, vs = [.ref s, .int m] ∧ SrcAt H s sc ∧ 0 < m ∧ m < 1073741824 ∧ ∀ d H', 0 ≤ d → d < m → ExO s H H' → SrcAt H' s sc → Q (.int d) H'
theorem ev_src {s : Addr} {xs : List V} {i : Nat} {v : V} (h : Ev ta σ H (.ref s)) (hs : H s = some (.lst xs)) (hi : xs[i]? = some v) : Ev (tOp (rIxL K) ta (tC (.int (i : Int)))) σ H v := ev_ixL h (sq_of hs) hi
theorem ev_int1 {i : Int} (h : Ev ta σ H (.int i)) : Ev (tCB (fun xs H Q => (∃ i, xs = [.int i] ∧ Q (.int i) H) ∨ ∃ k, xs = [.bl k] ∧ Q (.int (if k then 1 else 0)) H) (tCons ta tNil)) σ H (.int i) := ev_cb (ea_cons h ea_nil) fun H1 e Q q => .inl ⟨i, rfl, q H1 (Ex.refl _)⟩
theorem rv_mul {i j : Int} (h : (-(2 ^ 64) < i ∧ i < 2 ^ 64) ∨ (-(2 ^ 64) < j ∧ j < 2 ^ 64)) : RV (rI CMul fun i j => .int (i * j)) (.int i) (.int j) H (.int (i * j)) := rv_I h
theorem rv_mod {i j : Int} (h : 0 < j) : RV (rI (fun _ j => 0 < j) fun i j => .int (i % j)) (.int i) (.int j) H (.int (i % j)) := rv_I h
theorem rv_div {i j : Int} (h : 0 < j ∧ j < 1073741824) : RV (rI CDiv fun i j => .int (i / j)) (.int i) (.int j) H (.int (i / j)) := rv_I h
theorem f_draw (z : Cz w K mg) : Cl P w K mg base 1 "_law_draw" (SpDraw K) := by
  refine cal_of (k := 0) z.fn__law_draw z.glo__law_draw K0.c__law_draw (fun vs H Q E h => ?_) (fun cdv A outer s H vs Q _ hr h => ?_)
  · obtain ⟨s, sc, m, rfl, _⟩ := h
    rfl
  · obtain ⟨s, sc, m, rfl, hs, m0, m1, k⟩ := h
    refine ⟨_, (pss_cut (ps_if (PW.pt (pw_and (pt_cmpR op_eq (pe_ix (show IxR _ (rIxL K) from ix_list) (pv 0) pe_int (fun _ _ => rfl)) pe_int (nomark _)) (pw_and1 (pt_cmpR op_lt (pe_ix (show IxR _ (rIxL K) from ix_list) (pv 0) pe_int (fun _ _ => rfl)) (pe_callB call_len_seq (by rfl) z.free_len PySem.boot_len (pa_cons (pe_ix (show IxR _ (rIxL K) from ix_list) (pv 0) pe_int (fun _ _ => rfl)) pa_nil)) (nomark _))))) (pss_cons (ps_set (i := 2) K0.c__law_draw.nd rfl (.inl rfl) (pe_ix (show IxR _ (rIxL K) from ix_list) (pe_ix (show IxR _ (rIxL K) from ix_list) (pv 0) pe_int (fun _ _ => rfl)) (pe_ix (show IxR _ (rIxL K) from ix_list) (pv 0) pe_int (fun _ _ => rfl)) (fun _ _ => rfl)))
      (pss_cons (ps_asg (pe_op op_add (pe_ix (show IxR _ (rIxL K) from ix_list) (pv 0) pe_int (fun _ _ => rfl)) pe_int) (pg_sub (pv 0) pe_int set_list))
      (pss_one (ps_if (pt_cmpR op_ge (pv 2) (pe_op op_pow pe_int pe_int) (nomark _)) (pss_one (ps_asg (pv 2) (pg_sub (pv 0) pe_int set_list))) (pss_one (ps_asg (pe_op op_mod (pe_callTy call_int1 (by rfl) z.free_int (by decide +kernel) (pa_cons (pe_op op_add (pe_op op_mul (pe_ix (show IxR _ (rIxL K) from ix_list) (pv 0) pe_int (fun _ _ => rfl)) pe_int) (pv 2)) pa_nil)) pe_int) (pg_sub (pv 0) pe_int set_list))))))) pss_nil)
      (pss_cons (ps_if (pt_cmpR op_gt (pe_ix (show IxR _ (rIxL K) from ix_list) (pv 0) pe_int (fun _ _ => rfl)) pe_int (nomark _)) (pss_cons (ps_set (i := 3) K0.c__law_draw.nd rfl (.inl rfl) (pe_op op_mod (pe_callTy call_int1 (by rfl) z.free_int (by decide +kernel) (pa_cons (pe_ix (show IxR _ (rIxL K) from ix_list) (pv 0) pe_int (fun _ _ => rfl)) pa_nil)) (pv 1)))
      (pss_cons (ps_asg (pe_op op_fdiv (pe_ix (show IxR _ (rIxL K) from ix_list) (pv 0) pe_int (fun _ _ => rfl)) (pv 1)) (pg_sub (pv 0) pe_int set_list))
      (pss_one (ps_ret (pv 3))))) pss_nil)
      (pss_cons (ps_asg (pe_op op_add (pe_ix (show IxR _ (rIxL K) from ix_list) (pv 0) pe_int (fun _ _ => rfl)) pe_int) (pg_sub (pv 0) pe_int set_list))
      (pss_cons (ps_set (i := 4) K0.c__law_draw.nd rfl (.inl rfl) (pe_op op_mod (pe_callTy call_int1 (by rfl) z.free_int (by decide +kernel) (pa_cons (pe_op op_mul (pe_op op_add (pe_op op_add (pe_ix (show IxR _ (rIxL K) from ix_list) (pv 0) pe_int (fun _ _ => rfl)) (pe_op op_mul pe_int (pe_ix (show IxR _ (rIxL K) from ix_list) (pv 0) pe_int (fun _ _ => rfl)))) pe_int) pe_int) pa_nil)) pe_int))
      (pss_cons (ps_set (i := 4) K0.c__law_draw.nd rfl (.inl rfl) (pe_op op_mod (pe_callTy call_int1 (by rfl) z.free_int (by decide +kernel) (pa_cons (pe_op op_mul (pv 4) (pe_op op_add (pe_op op_fdiv (pv 4) pe_int) pe_int)) pa_nil)) pe_int))
      (pss_cons (ps_set (i := 4) K0.c__law_draw.nd rfl (.inl rfl) (pe_op op_mod (pe_callTy call_int1 (by rfl) z.free_int (by decide +kernel) (pa_cons (pe_op op_mul (pv 4) (pe_op op_add (pe_op op_fdiv (pv 4) pe_int) pe_int)) pa_nil)) pe_int))
      (pss_one (ps_ret (pe_op op_mod (pe_callTy call_int1 (by rfl) z.free_int (by decide +kernel) (pa_cons (pe_op op_fdiv (pv 4) pe_int) pa_nil)) (pv 1)))))))))), ?_⟩
    refine q_cut (M := fun σ' H' => σ'[0]? = some (some (.ref s)) ∧ σ'[1]? = some (some (.int m)) ∧ σ'.length = 5 ∧ ExO s H H' ∧ SrcAt H' s sc) ?_ ?_
    · obtain ⟨cs, i, c, st, n, no, ma, h1, h2, h3⟩ := hs
      refine s_when (b := decide (c = 0) && decide ((i : Int) < (cs.length : Nat))) (et_and (et_test (ev_op (ev_src (i := 2) (ev_var rfl) h1 rfl) ev_c rv_iEq)) fun _ => et_is (et_test (ev_op (ev_src (i := 1) (ev_var rfl) h1 rfl) (ev_lenL (ev_src (i := 0) (ev_var rfl) h1 rfl) (sq_of h2)) rv_I0)) (by rw [List.length_map])) (fun hb H1 e1 => ?_) (fun hb H1 e1 => ⟨rfl, rfl, rfl, ExO.of e1, SrcAt.mono e1 ⟨cs, i, c, st, n, no, ma, h1, h2, h3⟩⟩)
      obtain ⟨hb1, hb2⟩ := Bool.and_eq_true_iff.mp hb
      have hi : i < cs.length := by
        have := of_decide_eq_true hb2
        omega
      refine q_asg (ev_op (ev_src (i := 0) (ev_var rfl) (e1 _ _ h1) rfl) (ev_src (i := 1) (ev_var rfl) (e1 _ _ h1) rfl) (rv_ixL (sq_of (e1 _ _ h2)) (v := .int cs[i]) (atI_nat (by simp [hi])))) fun H2 e2 => ?_
      have e12 := e1.trans e2
      refine q_setL (j := 1) (e12 _ _ h1) (ev_op (ev_src (i := 1) (ev_var rfl) (e12 _ _ h1) rfl) ev_c rv_I0) (ev_var rfl) ev_c (by simp) fun H3 e3 => ?_
      have e13 := e12.trans e3
      have s3 : (upd H3 s (.lst [.ref sc.a, .int ((i + 1 : Nat) : Int), .int c, .int st, .int n, .int no, ma])) s = some (.lst [.ref sc.a, .int ((i + 1 : Nat) : Int), .int c, .int st, .int n, .int no, ma]) := upd_same
      have x3 : ExO s H (upd H3 s (.lst [.ref sc.a, .int ((i + 1 : Nat) : Int), .int c, .int st, .int n, .int no, ma])) := (ExO.of e13).upd
      have c3 : (upd H3 s (.lst [.ref sc.a, .int ((i + 1 : Nat) : Int), .int c, .int st, .int n, .int no, ma])) sc.a = some (.lst (cs.map V.int)) := by
        rw [upd_ne (src_ne h1 h2)]
        exact e13 _ _ h2
      show tIfS _ _ _ _ _ (upd H3 s (.lst [.ref sc.a, .int ((i + 1 : Nat) : Int), .int c, .int st, .int n, .int no, ma]))
      generalize upd H3 s (.lst [.ref sc.a, .int ((i + 1 : Nat) : Int), .int c, .int st, .int n, .int no, ma]) = H4 at s3 x3 c3
      refine s_if (b := decide ((10 : Int) ^ (18 : Int).toNat ≤ cs[i])) (et_test (ev_op (ev_var rfl) (ev_op ev_c ev_c (rv_I ⟨by decide, by decide, by decide⟩)) rv_I0)) (fun _ H5 e5 => ?_) (fun _ H5 e5 => ?_)
      · refine s_setL (j := 2) (e5 _ _ s3) (ev_var rfl) (ev_var rfl) ev_c (by simp) fun H6 e6 => ?_
        exact ⟨rfl, rfl, rfl, (x3.trans (ExO.of (e5.trans e6))).upd, SrcAt.put ((e5.trans e6) _ _ s3) ((e5.trans e6) _ _ c3) h3⟩
      · refine s_setL (j := 3) (e5 _ _ s3) (ev_op (ev_int1 (ev_op (ev_op (ev_src (i := 3) (ev_var rfl) (e5 _ _ s3) rfl) ev_c (rv_mul (.inr (by decide)))) (ev_var rfl) rv_I0)) ev_c (rv_mod (by decide))) (ev_var rfl) ev_c (by simp) fun H6 e6 => ?_
        exact ⟨rfl, rfl, rfl, (x3.trans (ExO.of (e5.trans e6))).upd, SrcAt.put ((e5.trans e6) _ _ s3) ((e5.trans e6) _ _ c3) h3⟩
    · rintro σ' H1 ⟨q0, q1, q5, x1, ⟨cs, i, c, st, n, no, ma, h1, h2, h3⟩⟩
      match σ', q5 with
      | [a0, a1, a2, a3, a4], _ =>
      cases q0
      cases q1
      refine q_when (b := decide (0 < c)) (et_test (ev_op (ev_src (i := 2) (ev_var rfl) h1 rfl) ev_c rv_I0)) (fun hb H2 e2 => ?_) (fun hb H2 e2 => ?_)
      · refine q_asg (ev_op (ev_int1 (ev_src (i := 2) (ev_var rfl) (e2 _ _ h1) rfl)) (ev_var rfl) (rv_mod m0)) fun H3 e3 => ?_
        have e23 := e2.trans e3
        refine q_setL (j := 2) (e23 _ _ h1) (ev_op (ev_src (i := 2) (ev_var rfl) (e23 _ _ h1) rfl) (ev_var rfl) (rv_div ⟨m0, m1⟩)) (ev_var rfl) ev_c (by simp) fun H4 e4 => ?_
        refine s_ret (ev_var rfl) fun H5 e5 => k _ H5 (Int.emod_nonneg _ (by omega)) (Int.emod_lt_of_pos _ m0) ((x1.trans (ExO.of (e23.trans e4))).upd.trans (ExO.of e5)) (SrcAt.mono e5 (SrcAt.put ((e23.trans e4) _ _ h1) ((e23.trans e4) _ _ h2) h3))
      · refine q_setL (j := 4) (e2 _ _ h1) (ev_op (ev_src (i := 4) (ev_var rfl) (e2 _ _ h1) rfl) ev_c rv_I0) (ev_var rfl) ev_c (by simp) fun H3 e3 => ?_
        have e23 := e2.trans e3
        have s3 : (upd H3 s (.lst [.ref sc.a, .int (i : Nat), .int c, .int st, .int (n + 1), .int no, ma])) s = some (.lst [.ref sc.a, .int (i : Nat), .int c, .int st, .int (n + 1), .int no, ma]) := upd_same
        have x3 : ExO s H (upd H3 s (.lst [.ref sc.a, .int (i : Nat), .int c, .int st, .int (n + 1), .int no, ma])) := (x1.trans (ExO.of e23)).upd
        have S3 : SrcAt (upd H3 s (.lst [.ref sc.a, .int (i : Nat), .int c, .int st, .int (n + 1), .int no, ma])) s sc := SrcAt.put (e23 _ _ h1) (e23 _ _ h2) h3
        show tSeq _ _ _ _ (upd H3 s (.lst [.ref sc.a, .int (i : Nat), .int c, .int st, .int (n + 1), .int no, ma]))
        generalize upd H3 s (.lst [.ref sc.a, .int (i : Nat), .int c, .int st, .int (n + 1), .int no, ma]) = H4 at s3 x3 S3
        refine q_asg (ev_op (ev_int1 (ev_op (ev_op (ev_op (ev_src (i := 3) (ev_var rfl) s3 rfl) (ev_op ev_c (ev_src (i := 4) (ev_var rfl) s3 rfl) (rv_mul (.inl (by decide)))) rv_I0) ev_c rv_I0) ev_c (rv_mul (.inr (by decide))))) ev_c (rv_mod (by decide))) fun H5 e5 => ?_
        generalize hn1 : ((st + 7919 * (n + 1) + 1) * 48271) % 2147483647 = n1
        have b1 : 0 ≤ n1 ∧ n1 < 2147483647 := by
          rw [← hn1]
          exact ⟨Int.emod_nonneg _ (by decide), Int.emod_lt_of_pos _ (by decide)⟩
        refine q_asg (ev_op (ev_int1 (ev_op (ev_var rfl) (ev_op (ev_op (ev_var rfl) ev_c (rv_div (by decide))) ev_c rv_I0) (rv_mul (.inl (by omega))))) ev_c (rv_mod (by decide))) fun H6 e6 => ?_
        generalize hn2 : (n1 * (n1 / 1009 + 69621)) % 2147483647 = n2
        have b2 : 0 ≤ n2 ∧ n2 < 2147483647 := by
          rw [← hn2]
          exact ⟨Int.emod_nonneg _ (by decide), Int.emod_lt_of_pos _ (by decide)⟩
        refine q_asg (ev_op (ev_int1 (ev_op (ev_var rfl) (ev_op (ev_op (ev_var rfl) ev_c (rv_div (by decide))) ev_c rv_I0) (rv_mul (.inl (by omega))))) ev_c (rv_mod (by decide))) fun H7 e7 => ?_
        refine s_ret (ev_op (ev_int1 (ev_op (ev_var rfl) ev_c (rv_div (by decide)))) (ev_var rfl) (rv_mod m0)) fun H8 e8 => ?_
        have e48 := ((e5.trans e6).trans e7).trans e8
        exact k _ H8 (Int.emod_nonneg _ (by omega)) (Int.emod_lt_of_pos _ m0) (x3.trans (ExO.of e48)) (S3.mono e48)
end
end K0
/-! ## K0X -/
set_option Elab.async false
set_option linter.all false
set_option maxRecDepth 100000
set_option maxHeartbeats 4000000
namespace K0
open PySem PySem.Spec PyProof.Rows L2 Evl RZ KB
section
variable {P : Program} {w : World} {K : PySem.W.Frag} {mg : Str → Option Value} {base : Heap} {σ : L2.St} {H H' H0 : Hp} {ta tb tc td te tl tv tk to : TE} {x y kv : V} {X0 : XK} {tu tz : TS} {D : Ends} {g : TG} {R : V → Hp → Prop}
def SpWords (K : PySem.W.Frag) : Sp := fun vs H Q _ => vs = [] ∧ ∀ p H', H p = none → Ex H H' → H' p = some (.lst (v_WORDS.map V.str)) → Q (.ref p) H'
theorem split_words : Txt.split ("let set put add cut say ask if else while leave give raise try catch last def class over call none" ++ " yes no and or not len kind above at" : Str) (" " : Str) = v_WORDS := by decide +kernel
theorem f_words (z : Cz w K mg) : Cl P w K mg base 1 "_law_words" (SpWords K) := by
  refine cal_of (k := 0) z.fn__law_words z.glo__law_words K0.c__law_words (fun vs H Q E h => ?_) (fun cdv A outer s H vs Q _ hr h => ?_)
  · obtain ⟨rfl, _⟩ := h
    rfl
  · obtain ⟨rfl, k⟩ := h
    refine ⟨_, (pss_cons (ps_set (i := 0) K0.c__law_words.nd rfl (.inl rfl) pe_str)
      (pss_one (ps_ret (pe_split (pe_op op_add_str (pv 0) pe_str) pe_str)))), ?_⟩
    refine q_asg ev_c fun H1 e1 => ?_
    refine ⟨_, rfl, _, _, rfl, rfl, by decide +kernel, ⟨_, rfl⟩, _, _, rfl, rfl, by decide +kernel, by decide +kernel, fun p hp => ?_⟩
    refine k p _ (fresh_back e1 hp) (e1.trans (Ex.new hp)) ?_
    rw [upd_same, split_words]
/-! values whose making changes the source -/
def EvX (te : TE) (σ : L2.St) (H : Hp) (R : V → Hp → Prop) : Prop := ∀ Q : VK, (∀ v H2, R v H2 → Q v H2) → te σ H Q
theorem EvX.ret (h : EvX te σ H R) (k : ∀ v H2, R v H2 → D.rt v H2) : tRet te D σ H := h _ k
theorem EvX.q_asg {i : Nat} (h : EvX te σ H R) (k : ∀ v H2, R v H2 → tz D (σ.set i (some v)) H2) : tSeq (tAsg te (gName i)) tz D σ H := h _ k
theorem EvX.op {r : R2} {R1 : V → Hp → Prop} {R2 : V → V → Hp → Prop} (ha : EvX ta σ H R1) (hb : ∀ x H1, R1 x H1 → EvX tb σ H1 (R2 x)) (hr : ∀ x H1 y H2, R1 x H1 → R2 x y H2 → ∀ Q : VK, (∀ v H3, R v H3 → Q v H3) → r x y H2 Q) : EvX (tOp r ta tb) σ H R := fun Q q =>
  ha _ fun x H1 r1 => hb x H1 r1 _ fun y H2 r2 => hr x H1 y H2 r1 r2 Q q
theorem EvX.of (h : Ev te σ H x) : EvX te σ H (fun v H' => v = x ∧ Ex H H') := fun Q q => h H (Ex.refl H) _ fun H2 e => q x H2 ⟨rfl, e⟩
theorem EvX.imp {R' : V → Hp → Prop} (h : EvX te σ H R) (k : ∀ v H2, R v H2 → R' v H2) : EvX te σ H R' := fun Q q => h Q fun v H2 r => q v H2 (k v H2 r)
/-- what a draw leaves -/
def Dr (s : Addr) (sc : Sc) (H H' : Hp) : Prop := ExO s H H' ∧ SrcAt H' s sc
theorem Dr.trans {s : Addr} {sc : Sc} {H H1 H2 : Hp} (a : Dr s sc H H1) (b : Dr s sc H1 H2) : Dr s sc H H2 := ⟨a.1.trans b.1, b.2⟩
theorem Dr.of {s : Addr} {sc : Sc} (S : SrcAt H s sc) (e : Ex H H') : Dr s sc H H' := ⟨ExO.of e, S.mono e⟩
theorem Dr.refl {s : Addr} {sc : Sc} (S : SrcAt H s sc) : Dr s sc H H := Dr.of S (Ex.refl H)
theorem SrcAt.some {s : Addr} {sc : Sc} (S : SrcAt H s sc) : H s ≠ none := by
  obtain ⟨cs, i, c, st, n, no, ma, h1, _⟩ := S
  rw [h1]
  exact fun q => nomatch q
/-- what is not the source stays -/
theorem Dr.at {s p : Addr} {sc : Sc} {u : HO} (d : Dr s sc H H') (h : H p = some u) (n : p ≠ s) : H' p = some u := d.1 p u n h
theorem x_draw {E : XK} {s : Addr} {sc : Sc} {m : Int} (h0 : Ev ta σ H (.ref s)) (h1 : Ev tb σ H (.int m)) (S : SrcAt H s sc) (m0 : 0 < m) (m1 : m < 1073741824) : EvX (tCall (SpDraw K) [] E (tCons ta (tCons tb tNil))) σ H (fun v H' => ∃ d, v = .int d ∧ 0 ≤ d ∧ d < m ∧ Dr s sc H H') := fun Q q =>
  ea_cons h0 (ea_cons h1 ea_nil) H (Ex.refl H) _ fun H2 e2 => ⟨s, sc, m, rfl, S.mono e2, m0, m1, fun d H3 d0 d1 x3 S3 => q _ H3 ⟨d, rfl, d0, d1, (Dr.of S e2).trans ⟨x3, S3⟩⟩⟩
theorem atI_some {α : Type} {xs : List α} {d : Int} (h0 : 0 ≤ d) (h1 : d < (xs.length : Nat)) : ∃ v, atI xs d = some v ∧ v ∈ xs := by
  obtain ⟨n, rfl⟩ := Int.eq_ofNat_of_zero_le h0
  have hn : n < xs.length := by omega
  exact ⟨xs[n], atI_nat (by simp), List.getElem_mem hn⟩
/-- [..][draw] of a new list -/
theorem x_pick {E : XK} {s : Addr} {sc : Sc} {m : Int} {xs : List V} {te : TE} (hl : EvL te σ H xs) (h0 : Ev ta σ H (.ref s)) (h1 : Ev tb σ H (.int m)) (S : SrcAt H s sc) (hm : m = (xs.length : Nat)) (m0 : 0 < m) (m1 : m < 1073741824) :
    EvX (tOp (rIxL K) te (tCall (SpDraw K) [] E (tCons ta (tCons tb tNil)))) σ H (fun v H' => v ∈ xs ∧ Dr s sc H H') := fun Q q => hl H (Ex.refl H) _ fun p H1 hp e1 h1' => by
  refine (x_draw (K := K) (h0.mono e1) (h1.mono e1) (S.mono e1) m0 m1) _ fun v H2 ⟨d, hv, d0, d1, dr⟩ => ?_
  obtain ⟨y, hy, hm2⟩ := atI_some (xs := xs) d0 (by omega)
  have np : p ≠ s := fun zz => S.some (zz ▸ hp)
  exact ⟨p, xs, d, y, rfl, hv, sq_of (dr.at h1' np), hy, q y H2 ⟨hm2, (Dr.of S e1).trans dr⟩⟩
/-- of a list that stands -/
theorem x_pickV {E : XK} {s p : Addr} {sc : Sc} {m : Int} {xs : List V} {te : TE} (hl : Ev te σ H (.ref p)) (hp : H p = some (.lst xs)) (np : p ≠ s) (h0 : Ev ta σ H (.ref s)) (h1 : Ev tb σ H (.int m)) (S : SrcAt H s sc) (hm : m = (xs.length : Nat)) (m0 : 0 < m) (m1 : m < 1073741824) :
    EvX (tOp (rIxL K) te (tCall (SpDraw K) [] E (tCons ta (tCons tb tNil)))) σ H (fun v H' => v ∈ xs ∧ Dr s sc H H') := fun Q q => hl H (Ex.refl H) _ fun H1 e1 => by
  refine (x_draw (K := K) (h0.mono e1) (h1.mono e1) (S.mono e1) m0 m1) _ fun v H2 ⟨d, hv, d0, d1, dr⟩ => ?_
  obtain ⟨y, hy, hm2⟩ := atI_some (xs := xs) d0 (by omega)
  exact ⟨p, xs, d, y, rfl, hv, sq_of (dr.at (e1 _ _ hp) np), hy, q y H2 ⟨hm2, (Dr.of S e1).trans dr⟩⟩
/-- a sign of a text -/
theorem x_sign {E : XK} {s : Addr} {sc : Sc} {m : Int} {z : Str} {te : TE} (hl : Ev te σ H (.str z)) (h0 : Ev ta σ H (.ref s)) (h1 : Ev tb σ H (.int m)) (S : SrcAt H s sc) (hm : m = (z.length : Nat)) (m0 : 0 < m) (hz : z.length ≤ 100000) :
    EvX (tOp rIxS te (tCall (SpDraw K) [] E (tCons ta (tCons tb tNil)))) σ H (fun v H' => (∃ c, v = .str ⟨#[c]⟩) ∧ Dr s sc H H') := fun Q q => hl H (Ex.refl H) _ fun H1 e1 => by
  refine (x_draw (K := K) (h0.mono e1) (h1.mono e1) (S.mono e1) m0 (by omega)) _ fun v H2 ⟨d, hv, d0, d1, dr⟩ => ?_
  have hzl : z.length = z.cps.toList.length := by simp [Str.length]
  obtain ⟨c, hc, _⟩ := atI_some (xs := z.cps.toList) d0 (by omega)
  exact ⟨z, d, c, rfl, hv, sz_of hz, hc, q _ H2 ⟨⟨c, rfl⟩, (Dr.of S e1).trans dr⟩⟩
end
end K0
/-! ## K0Y -/
set_option Elab.async false
set_option linter.all false
set_option maxRecDepth 100000
set_option maxHeartbeats 4000000
namespace K0
open PySem PySem.Spec PyProof.Rows L2 Evl RZ KB
section
variable {P : Program} {w : World} {K : PySem.W.Frag} {mg : Str → Option Value} {base : Heap} {σ : L2.St} {H H' H0 : Hp} {ta tb tc td te tl tv tk to : TE} {x y kv : V} {X0 : XK} {tu tz : TS} {D : Ends} {g : TG} {R : V → Hp → Prop}
theorem SrcAt.updD {s d : Addr} {sc : Sc} {o : HO} (S : SrcAt H s sc) (n1 : d ≠ s) (n2 : d ≠ sc.a) : SrcAt (L2.upd H d o) s sc := by
  obtain ⟨cs, i, c, st, n, no, ma, h1, h2, h3⟩ := S
  exact ⟨cs, i, c, st, n, no, ma, by rw [upd_ne (Ne.symm n1)]; exact h1, by rw [upd_ne (Ne.symm n2)]; exact h2, h3⟩
theorem sum_ones : ∀ ys : List Str, (∀ y ∈ ys, y.length = 1) → (ys.map (·.length)).sum = ys.length
  | [], _ => rfl
  | y :: ys, h => by
    rw [List.map_cons, List.sum_cons, sum_ones ys fun u hu => h u (List.mem_cons_of_mem _ hu), h y List.mem_cons_self, List.length_cons, Nat.add_comm]
/-- ''.join([sign for _ in range(n)]) -/
theorem x_join {E : XK} {s : Addr} {sc : Sc} {n : Nat} {m : Int} {z : Str} {j : Nat} {vs : List Nat} (h0 : ∀ σ2 H2, wipe σ2 vs = wipe σ vs → Ev ta σ2 H2 (.ref s)) (hn : Ev tk σ H (.int (n : Nat))) (hw : ∀ x, wipe ((wipe σ vs).set j (some x)) vs = wipe σ vs) (S : SrcAt H s sc) (hm : m = (z.length : Nat)) (m0 : 0 < m) (hz : z.length ≤ 100000) (hl : n ≤ 1000) :
    EvX (tM1 (fun x xs H Q => ∃ a p, ∃ ys : List Str, x = .str a ∧ xs = [.ref p] ∧ (SqL K H p (ys.map V.str) ∨ SqT K H p (ys.map V.str)) ∧ (ys.map (·.length)).sum + ys.length * a.length ≤ 16777216 ∧ Q (.str (Txt.join a ys)) H) (tC (.str ""))
      (tLc (iRng1 (tCons tk tNil)) (gName j) tYes (tOp rIxS (tC (.str z)) (tCall (SpDraw K) [] E (tCons ta (tCons (tC (.int m)) tNil)))) vs)) σ H (fun v H' => ∃ y : Str, v = .str y ∧ y.length ≤ n ∧ Dr s sc H H') := fun Q q => by
  refine ⟨⟨_, rfl⟩, ?_⟩
  refine hn H (Ex.refl H) _ fun H1 e1 => ⟨(n : Nat), rfl, by omega, by omega, fun Dl hD => ?_⟩
  have S1 := S.mono e1
  have nD : Dl ≠ s := fun zz => S1.some (zz ▸ hD)
  rw [Int.toNat_natCast]
  have nSc : Dl ≠ sc.a := fun zz => by
    obtain ⟨cs, i, c, st, n, no, ma, _, h2, _⟩ := S1
    rw [← zz, hD] at h2
    cases h2
  refine lc_it (walk_range (lo := 0) (n := n)) (fun i H' => ExO s H1 H' ∧ SrcAt H' s sc ∧ ∃ ys : List Str, H' Dl = some (.lst (ys.map V.str)) ∧ ys.length = i ∧ ∀ y ∈ ys, y.length = 1) ⟨ExO.of (Ex.new hD), S1.mono (Ex.new hD), [], upd_same, rfl, fun y hy => nomatch hy⟩ (fun i H' _ p => trivial) ?_ (fun H' p => ?_)
  · rintro i x H2 H3 hlt ⟨p1, p2, ys, p3, p4, p5⟩ ⟨rfl, rfl⟩
    refine ⟨hw _, ?_⟩
    show tOp rIxS (tC (.str z)) (tCall (SpDraw K) [] E (tCons ta (tCons (tC (.int m)) tNil))) _ H3 _
    refine (x_sign (K := K) ev_c (h0 _ H3 (hw _)) ev_c p2 hm m0 hz) _ fun v H4 ⟨⟨c, hc⟩, dr⟩ => ?_
    subst hc
    have h4 := dr.at p3 nD
    refine ⟨ys.map V.str, h4, sz_lt (by rw [List.length_map]; omega), (p1.trans dr.1).mut hD, dr.2.updD nD nSc, ys ++ [⟨#[c]⟩], by rw [upd_same, List.map_append]; rfl, by rw [List.length_append, p4]; rfl, fun y hy => ?_⟩
    rcases List.mem_append.mp hy with hy | hy
    · exact p5 y hy
    · rw [List.mem_singleton.mp hy]
      rfl
  · obtain ⟨p1, p2, ys, p3, p4, p5⟩ := p
    have hs := sum_ones ys p5
    have hj : (Txt.join "" ys).length ≤ n := by
      have h9 := StrLaws.join_length_le "" ys
      rw [hs, p4, show ("" : Str).length = 0 from rfl, Nat.mul_zero, Nat.add_zero] at h9
      rw [show Txt.join "" ys = Str.join "" ys from StrLaws.glued_eq_join _ _]
      exact h9
    exact ⟨"", Dl, ys, rfl, rfl, .inl (sq_of p3), by rw [hs, p4, show ("" : Str).length = 0 from rfl]; omega, q _ H' ⟨_, rfl, hj, (ExO.of e1).trans p1, p2⟩⟩
theorem er_words {E : XK} : EvR (tCall (SpWords K) [] E tNil) σ H (fun v H' => ∃ p, v = .ref p ∧ H p = none ∧ H' p = some (.lst (v_WORDS.map V.str))) := fun H1 e Q q => ⟨rfl, fun p H' hp e2 h2 => q _ H' e2 ⟨p, rfl, fresh_back e hp, h2⟩⟩
theorem words_len : ∀ w ∈ v_WORDS, w.length ≤ 10 := by
  have h : (v_WORDS.all fun w => decide (w.length ≤ 10)) = true := by decide +kernel
  exact fun w hw => of_decide_eq_true (List.all_eq_true.mp h w hw)
theorem ev_inW {E : XK} {z : Str} (h : Ev ta σ H (.str z)) : Ev (tOp (rIn K false) ta (tCall (SpWords K) [] E tNil)) σ H (.bl (inV (.str z) (v_WORDS.map V.str))) := fun H1 e Q q =>
  h H1 e _ fun H2 e2 => er_words (H := H2) H2 (Ex.refl _) _ fun v H3 e3 ⟨p, hv, _, hp⟩ => ⟨p, _, hv, .inl (sq_of hp), rfl, flat_words, q H3 (e2.trans e3)⟩
theorem rv_addS {a b : Str} (h : a.length + b.length ≤ 100000) : RV (fun x y H Q => ∃ i j, x = .str i ∧ y = .str j ∧ i.length + j.length ≤ sizeLine ∧ Q (.str (i ++ j)) H) (.str a) (.str b) H (.str (a ++ b)) := fun H1 e Q q => ⟨a, b, rfl, rfl, sz_of h, q H1 (Ex.refl _)⟩
theorem wipe_some2 {σ : L2.St} {vs : List Nat} {i : Nat} {v : V} (h : (wipe σ vs)[i]? = some (some v)) : σ[i]? = some (some v) := (wipe_some h).1
def SpName (K : PySem.W.Frag) : Sp := fun vs H Q _ => ∃ s sc, vs = [.ref s] ∧ SrcAt H s sc ∧ ∀ (z : Str) H', z.length ≤ 40 → Dr s sc H H' → Q (.str z) H'
theorem f_name (z : Cz w K mg) : Cl P w K mg base 2 "_law_name" (SpName K) := by
  have c__law_draw := f_draw (P := P) (base := base) z
  have c__law_words := f_words (P := P) (base := base) z
  refine cal_of (k := 1) z.fn__law_name z.glo__law_name K0.c__law_name (fun vs H Q E h => ?_) (fun cdv A outer s H vs Q _ hr h => ?_)
  · obtain ⟨s, sc, rfl, _⟩ := h
    rfl
  · obtain ⟨s, sc, rfl, S, k⟩ := h
    refine ⟨_, (pss_cons (ps_set (i := 1) K0.c__law_name.nd rfl (.inl rfl) (pe_c c__law_draw hr (by first | decide | omega) (by rfl) (pa_cons (pv 0) (pa_cons pe_int pa_nil))))
      (pss_cons (ps_if (pt_cmpR op_lt (pv 1) pe_int (nomark _)) (pss_one (ps_ret (pe_ix (show IxR _ (rIxL K) from ix_list) (pe_lst (pa_cons pe_str (pa_cons pe_str (pa_cons pe_str (pa_cons pe_str (pa_cons pe_str (pa_cons pe_str pa_nil))))))) (pe_c c__law_draw hr (by first | decide | omega) (by rfl) (pa_cons (pv 0) (pa_cons pe_int pa_nil))) (fun _ _ => rfl)))) pss_nil)
      (pss_cons (ps_if (pt_cmpR op_eq (pv 1) pe_int (nomark _)) (pss_cons (ps_set (i := 2) K0.c__law_name.nd rfl (.inl rfl) (pe_c0 c__law_words hr (by first | decide | omega) (by rfl)))
      (pss_one (ps_ret (pe_op op_add_str (pe_ix (show IxR _ (rIxL K) from ix_list) (pv 2) (pe_c c__law_draw hr (by first | decide | omega) (by rfl) (pa_cons (pv 0) (pa_cons (pe_callB call_len_seq (by rfl) z.free_len PySem.boot_len (pa_cons (pv 2) pa_nil)) pa_nil))) (fun _ _ => rfl)) (pe_ix ix_str pe_str (pe_c c__law_draw hr (by first | decide | omega) (by rfl) (pa_cons (pv 0) (pa_cons pe_int pa_nil))) (fun _ _ => rfl)))))) pss_nil)
      (pss_cons (ps_set (i := 3) K0.c__law_name.nd rfl (.inl rfl) (pe_op op_add pe_int (pe_c c__law_draw hr (by first | decide | omega) (by rfl) (pa_cons (pv 0) (pa_cons (pe_ix (show IxR _ (rIxL K) from ix_list) (pe_lst (pa_cons pe_int (pa_cons pe_int pa_nil))) (pe_op op_sub (pv 1) pe_int) (fun _ _ => rfl)) pa_nil)))))
      (pss_cons (ps_set (i := 4) K0.c__law_name.nd rfl (.inl rfl) (pe_join pe_str (pe_lc (own := [("_law_k", 5)]) rfl K0.c__law_name.nd (pi_range1 (by rfl) z.free_range (pa_cons (pv 3) pa_nil)) (blkOk_by (N := N__law_name) (sc := defScope s__law_name) (by decide +kernel)) (fun _ _ _ _ _ => (pg_name (i := 5) K0.c__law_name.nd rfl (.inl rfl))) (fun _ _ _ _ _ => pts_nil) (fun _ _ _ _ _ => (pe_ix ix_str pe_str (pe_c c__law_draw hr (by first | decide | omega) (by rfl) (pa_cons (pv 0) (pa_cons pe_int pa_nil))) (fun _ _ => rfl))))))
      (pss_cons (ps_if (pt_cmpR op_in_seq (pv 4) (pe_c0 c__law_words hr (by first | decide | omega) (by rfl)) (by rfl)) (pss_one (ps_ret (pe_op op_add_str (pv 4) pe_str))) pss_nil)
      (pss_one (ps_ret (pv 4))))))))), ?_⟩
    refine EvX.q_asg (x_draw (ev_var rfl) ev_c S (by decide) (by decide)) fun v H1 ⟨d, hv, d0, d1, r1⟩ => ?_
    subst hv
    refine q_when (b := decide (d < 2)) (et_test (ev_op (ev_var rfl) ev_c rv_I0)) (fun hb H2 e2 => ?_) (fun hb H2 e2 => ?_)
    · refine EvX.ret (x_pick (el_lst (ea_cons ev_c (ea_cons ev_c (ea_cons ev_c (ea_cons ev_c (ea_cons ev_c (ea_cons ev_c ea_nil)))))) (by decide)) (ev_var rfl) ev_c (r1.2.mono e2) rfl (by decide) (by decide)) fun v H3 ⟨hm, r3⟩ => ?_
      have hr := (r1.trans (Dr.of r1.2 e2)).trans r3
      simp only [List.mem_cons, List.not_mem_nil, or_false] at hm
      rcases hm with rfl | rfl | rfl | rfl | rfl | rfl <;> exact k _ H3 (by decide) hr
    refine q_when (b := decide (d = 4)) (et_test (ev_op (ev_var rfl) ev_c rv_iEq)) (fun hb4 H3 e3 => ?_) (fun hb4 H3 e3 => ?_)
    · have r3 := r1.trans (Dr.of r1.2 (e2.trans e3))
      refine q_rasg er_words fun v H4 e4 ⟨p, hv, hp, h4⟩ => ?_
      subst hv
      have r4 := r3.trans (Dr.of r3.2 e4)
      have np : p ≠ s := fun zz => r3.2.some (zz ▸ hp)
      refine EvX.ret (EvX.op (R := fun v H' => ∃ z : Str, v = .str z ∧ z.length ≤ 40 ∧ Dr s sc H H') (R2 := fun _ v H' => (∃ c, v = .str ⟨#[c]⟩) ∧ Dr s sc H H') (x_pickV (m := 30) (ev_var rfl) h4 np (ev_var rfl) (ev_is (ev_lenL (ev_var rfl) (sq_of h4)) (by rw [List.length_map]; rfl)) r4.2 rfl (by decide) (by decide)) (fun x H5 r5 => (x_sign (m := 2) (z := "sx") ev_c (ev_var rfl) ev_c r5.2.2 rfl (by decide) (by decide)).imp fun v H6 ⟨h1, h2⟩ => ⟨h1, (r4.trans r5.2).trans h2⟩) fun x H5 y H6 ⟨hx, r5⟩ ⟨⟨c, hc⟩, r6⟩ Q6 q6 => ?_) fun v H7 ⟨z7, hz7, hl7, r7⟩ => ?_
      · obtain ⟨wd, hwd, rfl⟩ := List.mem_map.mp hx
        have hl := words_len wd hwd
        subst hc
        exact ⟨wd, ⟨#[c]⟩, rfl, rfl, sz_of (by show wd.length + 1 ≤ _; omega), q6 _ _ ⟨_, rfl, by rw [Str.length_append]; show wd.length + 1 ≤ _; omega, r6⟩⟩
      · subst hz7
        exact k z7 H7 hl7 r7
    · have n2 : ¬ d < 2 := of_decide_eq_false hb
      have n4 : ¬ d = 4 := of_decide_eq_false hb4
      have r3 := r1.trans (Dr.of r1.2 (e2.trans e3))
      have hd : d = 2 ∨ d = 3 := by omega
      refine EvX.q_asg (R := fun v H' => ∃ n : Nat, v = .int (n : Nat) ∧ n ≤ 8 ∧ Dr s sc H H') (fun Q9 q9 => ?_) fun v H4 ⟨n, hv, hn, r4⟩ => ?_
      · refine (EvX.op (R2 := fun _ v H' => ∃ n : Nat, v = .int (n : Nat) ∧ n < 8 ∧ Dr s sc H H') (tb := tCall (SpDraw K) [] E0 (tCons (tVar 0) (tCons (tOp (rIxL K) (tLst (tCons (tC (.int 3)) (tCons (tC (.int 8)) tNil))) (tOp (rI0 fun i j => .int (i - j)) (tVar 1) (tC (.int 2)))) tNil))) (EvX.of ev_c) (fun x H5 ⟨hx, e5⟩ => ?_) fun x H5 y H6 ⟨hx, e5⟩ hy Q6 q6 => ?_) Q9 q9
        · have r5 := r3.trans (Dr.of r3.2 e5)
          rcases hd with rfl | rfl
          · refine (x_draw (m := 3) (ev_var rfl) (ev_opL1 (el_lst (ea_cons ev_c (ea_cons ev_c ea_nil)) (by decide)) (fun H9 _ => ev_op (ev_var rfl) ev_c rv_I0) fun p H9 hp _ => rv_ixL (sq_of hp) rfl) r5.2 (by decide) (by decide)).imp fun v H6 ⟨d, hv, d0, d1, r6⟩ => ⟨d.toNat, by rw [hv, Int.toNat_of_nonneg d0], by omega, r5.trans r6⟩
          · refine (x_draw (m := 8) (ev_var rfl) (ev_opL1 (el_lst (ea_cons ev_c (ea_cons ev_c ea_nil)) (by decide)) (fun H9 _ => ev_op (ev_var rfl) ev_c rv_I0) fun p H9 hp _ => rv_ixL (sq_of hp) rfl) r5.2 (by decide) (by decide)).imp fun v H6 ⟨d, hv, d0, d1, r6⟩ => ⟨d.toNat, by rw [hv, Int.toNat_of_nonneg d0], by omega, r5.trans r6⟩
        · obtain ⟨n, hv, hn, r6⟩ := hy
          exact ⟨1, n, hx, hv, q6 _ _ ⟨n + 1, by show V.int (1 + (n : Int)) = V.int ((n + 1 : Nat) : Int); congr 1; omega, by omega, r6⟩⟩
      · subst hv
        refine EvX.q_asg (x_join (n := n) (m := 26) (fun σ2 H2 hw => ev_var ?_) (ev_var rfl) (fun x => rfl) r4.2 rfl (by decide) (by decide) (by omega)) fun v H5 ⟨y, hv, hy, r5⟩ => ?_
        · have h9 : (wipe σ2 [5])[0]? = some (some (.ref s)) := by
            rw [show wipe σ2 [5] = _ from hw]
            rfl
          exact wipe_some2 h9
        · subst hv
          have r45 := r4.trans r5
          refine q_when (et_test (ev_inW (ev_var rfl))) (fun _ H6 e6 => ?_) (fun _ H6 e6 => ?_)
          · refine s_ret (ev_op (ev_var rfl) ev_c (rv_addS (by show y.length + 1 ≤ _; omega))) fun H7 e7 => k _ H7 (by rw [Str.length_append]; show y.length + 1 ≤ 40; omega) (r45.trans (Dr.of r45.2 (e6.trans e7)))
          · exact s_ret (ev_var rfl) fun H7 e7 => k _ H7 (by omega) (r45.trans (Dr.of r45.2 (e6.trans e7)))
end
end K0
/-! ## KH -/
set_option Elab.async false
set_option linter.all false
set_option maxRecDepth 100000
set_option maxHeartbeats 4000000
namespace K0
open PySem PySem.Spec PyProof.Rows L2 Evl RZ KB
section
variable {P : Program} {w : World} {K : PySem.W.Frag} {mg : Str → Option Value} {base : Heap} {σ : L2.St} {H H' H0 : Hp} {ta tb tc td te tl tv tk to : TE} {x y kv : V} {X0 : XK} {tu tz : TS} {D : Ends} {g : TG} {R : V → Hp → Prop}
/-! _law_same of two equal things -/
mutual
def okS : Th → Bool
  | .tup ts => decide (ts.length ≤ 1000) && okSL ts
  | .lst _ => false
  | .dic => false
  | _ => true
def okSL : List Th → Bool
  | [] => true
  | t :: ts => okS t && okSL ts
end
theorem okSL_get : ∀ {ts : List Th} {i : Nat} {t : Th}, okSL ts = true → ts[i]? = some t → okS t = true
  | [], _, _, _, h => by simp at h
  | t :: ts, 0, u, h, e => by
    simp at e
    subst e
    exact (Bool.and_eq_true_iff.mp (show (okS t && okSL ts) = true from h)).1
  | t :: ts, i + 1, u, h, e => okSL_get (i := i) (Bool.and_eq_true_iff.mp (show (okS t && okSL ts) = true from h)).2 (by simpa using e)
def SpSame (K : PySem.W.Frag) (d : Nat) : Sp := Pu fun vs H v => ∃ x y t, vs = [x, y] ∧ Rep K H x t ∧ Rep K H y t ∧ okS t = true ∧ dpT t < d ∧ v = .bl true
theorem el_rng {n : Nat} {j : Nat} {vs : List Nat} {ys : List V} (hn : Ev ta σ H (.int (n : Nat))) (hl : ys.length = n) (hz : n ≤ 50000) (hw : ∀ x, wipe ((wipe σ vs).set j (some x)) vs = wipe σ vs)
    (he : ∀ (i : Nat) (y : V) (H1 : Hp), Ex H H1 → i < n → ys[i]? = some y → Ev te ((wipe σ vs).set j (some (.int (i : Nat)))) H1 y) : EvL (tLc (iRng1 (tCons ta tNil)) (gName j) tYes te vs) σ H ys :=
  el_lcW2 ys hl hz fun H1 e R q => hn H1 e _ fun H2 e2 => ⟨(n : Nat), rfl, by omega, by omega, q _ _ _ H2 e2 (by rw [Int.toNat_natCast]; exact walk_range) (fun _ _ => trivial) fun i x y H3 H4 e3 hy hyi => by
    obtain ⟨rfl, rfl⟩ := hy
    refine ⟨Ex.refl _, fun Qc kc => kc _ _ (hw _) (Ex.refl _) ?_⟩
    show Ev te ((wipe σ vs).set j (some (.int ((0 : Int) + (i : Nat))))) H4 y
    rw [Int.zero_add]
    exact he i y H4 ((e.trans e2).trans e3) (by
      have := (List.getElem?_eq_some_iff.mp hyi).1
      omega) hyi⟩
theorem f_same (z : Cz w K mg) : ∀ d : Nat, Cl P w K mg base (d + 1) "_law_same" (SpSame K d)
  | 0 => by
    refine cal_of (k := 0) z.fn__law_same z.glo__law_same K0.c__law_same (fun vs H Q E h => ?_) (fun cdv A outer s H vs Q _ hr h => ?_)
    · obtain ⟨_, ⟨x, y, t, rfl, _⟩, _⟩ := h
      rfl
    · obtain ⟨_, ⟨x, y, t, rfl, _, _, _, h9, _⟩, _⟩ := h
      exact absurd h9 (Nat.not_lt_zero _)
  | d + 1 => by
    have c__law_same := f_same z d
    refine cal_of (k := d + 1) z.fn__law_same z.glo__law_same K0.c__law_same (fun vs H Q E h => ?_) (fun cdv A outer s H vs Q _ hr h => ?_)
    · obtain ⟨_, ⟨x, y, t, rfl, _⟩, _⟩ := h
      rfl
    · obtain ⟨_, ⟨x, y, t, rfl, rx, ry, ok, hd, rfl⟩, k⟩ := h
      refine ⟨_, (pss_cons (ps_if (PW.pt (pw_or (pt_val (pe_callB call_isi (by rfl) z.free_isinstance boot_isinstance (pa_cons (pv 1) (pa_cons (pe_bty (T := "list") z.free_list (by decide +kernel)) pa_nil)))) (pw_or1 (pt_val (pe_callB call_isi (by rfl) z.free_isinstance boot_isinstance (pa_cons (pv 1) (pa_cons (pe_bty (T := "tuple") z.free_tuple (by decide +kernel)) pa_nil))))))) (pss_cons (ps_if (PW.pt (pw_and (pt_val (pe_callB call_isi (by rfl) z.free_isinstance boot_isinstance (pa_cons (pv 1) (pa_cons (pe_bty (T := "list") z.free_list (by decide +kernel)) pa_nil)))) (pw_and1 (pt_not (pt_val (pe_callB call_isi (by rfl) z.free_isinstance boot_isinstance (pa_cons (pv 0) (pa_cons (pe_bty (T := "list") z.free_list (by decide +kernel)) pa_nil)))))))) (pss_one (ps_ret pe_bl)) pss_nil)
      (pss_cons (ps_if (PW.pt (pw_and (pt_val (pe_callB call_isi (by rfl) z.free_isinstance boot_isinstance (pa_cons (pv 1) (pa_cons (pe_bty (T := "tuple") z.free_tuple (by decide +kernel)) pa_nil)))) (pw_and1 (pt_not (pt_val (pe_callB call_isi (by rfl) z.free_isinstance boot_isinstance (pa_cons (pv 0) (pa_cons (pe_bty (T := "tuple") z.free_tuple (by decide +kernel)) pa_nil)))))))) (pss_one (ps_ret pe_bl)) pss_nil)
      (pss_cons (ps_if (pt_cmpR op_ne (pe_callB call_len_seq (by rfl) z.free_len PySem.boot_len (pa_cons (pv 0) pa_nil)) (pe_callB call_len_seq (by rfl) z.free_len PySem.boot_len (pa_cons (pv 1) pa_nil)) (nomark _)) (pss_one (ps_ret pe_bl)) pss_nil)
      (pss_one (ps_ret (pe_callB (cr_all rfl) (by rfl) z.free_all (by decide +kernel) (pa_cons (pe_lc (own := [("_law_k", 2)]) rfl K0.c__law_same.nd (pi_range1 (by rfl) z.free_range (pa_cons (pe_callB call_len_seq (by rfl) z.free_len PySem.boot_len (pa_cons (pv 1) pa_nil)) pa_nil)) (blkOk_by (N := N__law_same) (sc := defScope s__law_same) (by decide +kernel)) (fun _ _ _ _ _ => (pg_name (i := 2) K0.c__law_same.nd rfl (.inl rfl))) (fun _ _ _ _ _ => pts_nil) (fun _ _ _ _ _ => (pe_c c__law_same hr (by first | decide | omega) (by rfl) (pa_cons (pe_ix (show IxR _ (rIxT K) from ix_tup) (pv 0) (pv 2) (fun _ _ => rfl)) (pa_cons (pe_ix (show IxR _ (rIxT K) from ix_tup) (pv 1) (pv 2) (fun _ _ => rfl)) pa_nil))))) pa_nil))))))) pss_nil)
      (pss_cons (ps_if (pt_cmpR op_isN (pv 1) pe_non (nomark _)) (pss_one (ps_ret (pe_cmpR op_isN (pv 0) pe_non (nomark _)))) pss_nil)
      (pss_cons (ps_if (pt_val (pe_callB call_isi (by rfl) z.free_isinstance boot_isinstance (pa_cons (pv 1) (pa_cons (pe_bty (T := "str") z.free_str (by decide +kernel)) pa_nil)))) (pss_one (ps_ret (pe_and (pe_callB call_isi (by rfl) z.free_isinstance boot_isinstance (pa_cons (pv 0) (pa_cons (pe_bty (T := "str") z.free_str (by decide +kernel)) pa_nil))) (pe_one (pe_cmpR op_eq (pv 0) (pv 1) (nomark _)))))) pss_nil)
      (pss_cons (ps_if (pt_val (pe_callB call_isi (by rfl) z.free_isinstance boot_isinstance (pa_cons (pv 1) (pa_cons (pe_bty (T := "bool") z.free_bool (by decide +kernel)) pa_nil)))) (pss_one (ps_ret (pe_and (pe_callB call_isi (by rfl) z.free_isinstance boot_isinstance (pa_cons (pv 0) (pa_cons (pe_bty (T := "bool") z.free_bool (by decide +kernel)) pa_nil))) (pe_one (pe_cmpR op_eq (pv 0) (pv 1) (nomark _)))))) pss_nil)
      (pss_one (ps_ret (pe_and (pe_callB call_isi (by rfl) z.free_isinstance boot_isinstance (pa_cons (pv 0) (pa_cons (pe_bty (T := "int") z.free_int (by decide +kernel)) pa_nil))) (pe_and (pe_not (pe_callB call_isi (by rfl) z.free_isinstance boot_isinstance (pa_cons (pv 0) (pa_cons (pe_bty (T := "bool") z.free_bool (by decide +kernel)) pa_nil)))) (pe_one (pe_cmpR op_eq (pv 0) (pv 1) (nomark _))))))))))), ?_⟩
      have eL := isB_list t
      have eT' := isB_tuple t
      have eS := isB_str t
      have eB := isB_bool t
      have eI := isB_int t
      cases t with
      | lst ts => cases ok
      | dic => cases ok
      | tup ts =>
        refine q_when (b := true) (et_is (et_or (a := isB "list" (.tup ts)) (b := true) (et_B (ev_isi tys_list (ev_var rfl) ry)) fun _ => et_is (et_B (ev_isi tys_tuple (ev_var rfl) ry)) (by rw [eT']; rfl)) (Bool.or_true _)) (fun _ H1 e1 => ?_) (fun hh => nomatch hh)
        refine q_when (b := false) (et_is (et_and (a := isB "list" (.tup ts)) (b := false) (et_B (ev_isi tys_list (ev_var rfl) (ry.mono e1))) fun hh => by rw [eL] at hh; cases hh) (Bool.and_false _)) (fun hh => nomatch hh) (fun _ H2 e2 => ?_)
        have e12 := e1.trans e2
        refine q_when (b := false) (et_is (et_and (a := isB "tuple" (.tup ts)) (b := false) (et_B (ev_isi tys_tuple (ev_var rfl) (ry.mono e12))) fun hh => et_is (et_not (et_B (ev_isi tys_tuple (ev_var rfl) (rx.mono e12)))) (by rw [eT']; rfl)) (Bool.and_false _)) (fun hh => nomatch hh) (fun _ H3 e3 => ?_)
        have e13 := e12.trans e3
        cases rx with
        | tup hx rxs =>
        cases ry with
        | tup hy rys =>
        have lx := rxs.length
        have ly := rys.length
        obtain ⟨ok1, ok2⟩ := Bool.and_eq_true_iff.mp (show (decide (ts.length ≤ 1000) && okSL ts) = true from ok)
        have hz := of_decide_eq_true ok1
        refine q_when (b := false) (et_is (et_test (ev_op (ev_lenT (ev_var rfl) (ex_t e13 hx)) (ev_lenT (ev_var rfl) (ex_t e13 hy)) rv_iNe)) (by rw [lx, ly, decide_eq_true rfl]; rfl)) (fun hh => nomatch hh) (fun _ H4 e4 => ?_)
        have e14 := e13.trans e4
        have h2 : true = ((ts.map fun _ => true).all id) := by
          rw [List.all_map]
          simp
        rw [h2] at k
        refine s_ret (ev_all (bs := ts.map fun _ => true) (el_rng (n := ts.length) (ev_is (ev_lenT (ev_var rfl) (ex_t e14 hy)) (by rw [ly])) (by simp) (by omega) (fun x => rfl) fun i yv H5 e5 hi hyi => ?_)) fun H5 e5 => k H5 (e14.trans e5)
        have hyv : yv = .bl true := by
          rw [List.getElem?_map, List.getElem?_map] at hyi
          cases h9 : ts[i]? with
          | none =>
            rw [h9] at hyi
            cases hyi
          | some t9 =>
            rw [h9] at hyi
            exact (Option.some.inj hyi).symm
        rw [hyv]
        have ht : ts[i]? = some ts[i] := by simp [hi]
        have e15 := e14.trans e5
        obtain ⟨v1, h1, r1⟩ := (rxs.mono e15).get' ht
        obtain ⟨v2, h2', r2⟩ := (rys.mono e15).get' ht
        exact ev_pu (ea_cons (ev_op (ev_var rfl) (ev_var rfl) (rv_ixT (ex_t e15 hx) (atI_nat h1))) (ea_cons (ev_op (ev_var rfl) (ev_var rfl) (rv_ixT (ex_t e15 hy) (atI_nat h2'))) ea_nil)) fun H6 e6 => ⟨v1, v2, _, rfl, r1.mono e6, r2.mono e6, okSL_get ok2 ht, Nat.lt_of_le_of_lt (dpL_get ht) (Nat.lt_of_succ_lt_succ hd), rfl⟩
      | non =>
        refine q_when (b := false) (et_is (et_or (et_B (ev_isi tys_list (ev_var rfl) ry)) fun _ => et_B (ev_isi tys_tuple (ev_var rfl) ry)) (by rw [eL, eT']; rfl)) (fun hh => nomatch hh) (fun _ H1 e1 => ?_)
        cases rx
        cases ry
        refine q_when (b := true) (et_test (ev_op (ev_var rfl) ev_c rv_isN)) (fun _ H2 e2 => s_ret (ev_op (ev_var rfl) ev_c rv_isN) fun H3 e3 => k H3 ((e1.trans e2).trans e3)) (fun hh => nomatch hh)
      | str z0 =>
        refine q_when (b := false) (et_is (et_or (et_B (ev_isi tys_list (ev_var rfl) ry)) fun _ => et_B (ev_isi tys_tuple (ev_var rfl) ry)) (by rw [eL, eT']; rfl)) (fun hh => nomatch hh) (fun _ H1 e1 => ?_)
        cases rx
        cases ry
        refine q_when (b := false) (et_test (ev_op (ev_var rfl) ev_c rv_isN)) (fun hh => nomatch hh) (fun _ H2 e2 => ?_)
        refine q_when (b := true) (et_is (et_B (ev_isi tys_str (ev_var rfl) (.str z0))) (by rw [eS]; rfl)) (fun _ H3 e3 => ?_) (fun hh => nomatch hh)
        exact s_ret (ev_is (ev_andV (ev_isi tys_str (ev_var rfl) (.str z0)) fun _ => ev_op (ev_var rfl) (ev_var rfl) rv_sEq) (by rw [eS, decide_eq_true rfl]; rfl)) fun H4 e4 => k H4 (((e1.trans e2).trans e3).trans e4)
      | bl b0 =>
        refine q_when (b := false) (et_is (et_or (et_B (ev_isi tys_list (ev_var rfl) ry)) fun _ => et_B (ev_isi tys_tuple (ev_var rfl) ry)) (by rw [eL, eT']; rfl)) (fun hh => nomatch hh) (fun _ H1 e1 => ?_)
        cases rx
        cases ry
        refine q_when (b := false) (et_test (ev_op (ev_var rfl) ev_c rv_isN)) (fun hh => nomatch hh) (fun _ H2 e2 => ?_)
        refine q_when (b := false) (et_is (et_B (ev_isi tys_str (ev_var rfl) (.bl b0))) (by rw [eS]; rfl)) (fun hh => nomatch hh) (fun _ H3 e3 => ?_)
        refine q_when (b := true) (et_is (et_B (ev_isi tys_bool (ev_var rfl) (.bl b0))) (by rw [eB]; rfl)) (fun _ H4 e4 => ?_) (fun hh => nomatch hh)
        exact s_ret (ev_is (ev_andV (ev_isi tys_bool (ev_var rfl) (.bl b0)) fun _ => ev_op (ev_var rfl) (ev_var rfl) rv_bEq) (by rw [eB, decide_eq_true rfl]; rfl)) fun H5 e5 => k H5 ((((e1.trans e2).trans e3).trans e4).trans e5)
      | int i0 =>
        refine q_when (b := false) (et_is (et_or (et_B (ev_isi tys_list (ev_var rfl) ry)) fun _ => et_B (ev_isi tys_tuple (ev_var rfl) ry)) (by rw [eL, eT']; rfl)) (fun hh => nomatch hh) (fun _ H1 e1 => ?_)
        cases rx
        cases ry
        refine q_when (b := false) (et_test (ev_op (ev_var rfl) ev_c rv_isN)) (fun hh => nomatch hh) (fun _ H2 e2 => ?_)
        refine q_when (b := false) (et_is (et_B (ev_isi tys_str (ev_var rfl) (.int i0))) (by rw [eS]; rfl)) (fun hh => nomatch hh) (fun _ H3 e3 => ?_)
        refine q_when (b := false) (et_is (et_B (ev_isi tys_bool (ev_var rfl) (.int i0))) (by rw [eB]; rfl)) (fun hh => nomatch hh) (fun _ H4 e4 => ?_)
        exact s_ret (ev_is (ev_andV (ev_isi tys_int (ev_var rfl) (.int i0)) fun _ => ev_andV (ev_notV (ev_isi tys_bool (ev_var rfl) (.int i0))) fun _ => ev_op (ev_var rfl) (ev_var rfl) rv_iEq) (by rw [eI, eB, decide_eq_true rfl]; rfl)) fun H5 e5 => k H5 ((((e1.trans e2).trans e3).trans e4).trans e5)
/-! new data -/
def En (K : PySem.W.Frag) (te : TE) (σ : L2.St) (H : Hp) (t : Th) : Prop := EvR te σ H (fun v H' => Rep K H' v t)
def EnA (K : PySem.W.Frag) (ta : TA) (σ : L2.St) (H : Hp) (ts : List Th) : Prop := ∀ H1, Ex H H1 → ∀ Q : List V → Hp → Prop, (∀ vs H2, Ex H1 H2 → Reps K H2 vs ts → Q vs H2) → ta σ H1 Q
theorem en_var {i : Nat} {v : V} {t : Th} (h : σ[i]? = some (some v)) (r : Rep K H v t) : En K (tVar i) σ H t := fun H1 e Q q => ⟨v, h, q v H1 (Ex.refl _) (r.mono e)⟩
theorem en_str (s : Str) : En K (tC (.str s)) σ H (.str s) := fun H1 e Q q => q _ H1 (Ex.refl _) (.str s)
theorem en_int (i : Int) : En K (tC (.int i)) σ H (.int i) := fun H1 e Q q => q _ H1 (Ex.refl _) (.int i)
theorem en_bl (b : Bool) : En K (tC (.bl b)) σ H (.bl b) := fun H1 e Q q => q _ H1 (Ex.refl _) (.bl b)
theorem en_non : En K (tC .non) σ H .non := fun H1 e Q q => q _ H1 (Ex.refl _) .non
theorem ena_nil : EnA K tNil σ H [] := fun H1 _ Q q => q [] H1 (Ex.refl _) .nil
theorem ena_cons {te : TE} {tr : TA} {t : Th} {ts : List Th} (h : En K te σ H t) (hr : EnA K tr σ H ts) : EnA K (tCons te tr) σ H (t :: ts) := fun H1 e Q q =>
  h H1 e _ fun v H2 e2 r => hr H2 (e.trans e2) _ fun vs H3 e3 rs => q (v :: vs) H3 (e2.trans e3) (.cons (r.mono e3) rs)
theorem en_tup {t : TA} {ts : List Th} (h : EnA K t σ H ts) (hl : ts.length ≤ 1000) : En K (tTup t) σ H (.tup ts) := fun H1 e Q q =>
  h H1 e _ fun vs H2 e2 rs => ⟨sz_of (by rw [rs.length]; omega), fun p hp => q _ _ (e2.trans (Ex.new hp)) (.tup (st_of upd_same) (rs.mono (Ex.new hp)))⟩
theorem en_lst {t : TA} {ts : List Th} (h : EnA K t σ H ts) (hl : ts.length ≤ 1000) : En K (tLst t) σ H (.lst ts) := fun H1 e Q q =>
  h H1 e _ fun vs H2 e2 rs => ⟨sz_of (by rw [rs.length]; omega), fun p hp => q _ _ (e2.trans (Ex.new hp)) (.lst upd_same (rs.mono (Ex.new hp)))⟩
theorem en_ev {v : V} {t : Th} (h : Ev te σ H v) (r : Rep K H v t) : En K te σ H t := fun H1 e Q q => h H1 e _ fun H2 e2 => q v H2 e2 (r.mono (e.trans e2))
theorem en_is {t t' : Th} (h : En K te σ H t) (e : t = t') : En K te σ H t' := e ▸ h
theorem En.mono {t : Th} (e : Ex H H') (h : En K te σ H t) : En K te σ H' t := fun H1 e1 Q q => h H1 (e.trans e1) Q q
theorem en_ret {t : Th} (h : En K te σ H t) (k : ∀ v H1, Ex H H1 → Rep K H1 v t → D.rt v H1) : tRet te D σ H := h H (Ex.refl _) _ k
theorem en_cat {ts us : List Th} (h1 : En K ta σ H (.lst ts)) (h2 : En K tb σ H (.lst us)) (hl : ts.length + us.length ≤ 1000) : En K (tOp rCat ta tb) σ H (.lst (ts ++ us)) := fun H1 e Q q =>
  h1 H1 e _ fun v H2 e2 r => h2 H2 (e.trans e2) _ fun v3 H3 e3 r3 => by
    have r := r.mono e3
    cases r with
    | lst ha rs =>
      cases r3 with
      | lst hb rs3 => exact ⟨_, _, _, _, rfl, rfl, ha, hb, sz_of (by rw [rs.length, rs3.length]; omega), fun p hp => q _ _ ((e2.trans e3).trans (Ex.new hp)) (.lst upd_same ((rs.append rs3).mono (Ex.new hp)))⟩
theorem en_take {ts : List Th} {n : Nat} {tl th : TO} (h : En K te σ H (.lst ts)) (h1 : EvO tl σ H none) (h2 : EvO th σ H (some (n : Nat))) : En K (tSl (rSlL K) te tl th) σ H (.lst (ts.take n)) := fun H1 e Q q =>
  h H1 e _ fun v H2 e2 r => h1 H2 (e.trans e2) _ fun H3 e3 => h2 H3 ((e.trans e2).trans e3) _ fun H4 e4 => by
    have r := r.mono (e3.trans e4)
    cases r with
    | lst ha rs => exact ⟨_, _, rfl, sq_of ha, fun p hp => q _ _ (((e2.trans e3).trans e4).trans (Ex.new hp)) (.lst upd_same (by rw [cutV_to]; exact (rs.take n).mono (Ex.new hp)))⟩
theorem cutV_from (xs : List V) (n : Nat) (h : n ≤ xs.length) : cutV xs (some (n : Int)) none = xs.drop n := by
  unfold cutV
  rw [HT.sIx_nat, HT.sIx_none, Nat.min_eq_left h, List.take_of_length_le (by rw [List.length_drop]; exact Nat.le_refl _)]
theorem en_drop {ts : List Th} {n : Nat} {tl th : TO} (h : En K te σ H (.lst ts)) (h1 : EvO tl σ H (some (n : Nat))) (h2 : EvO th σ H none) (hn : n ≤ ts.length) : En K (tSl (rSlL K) te tl th) σ H (.lst (ts.drop n)) := fun H1 e Q q =>
  h H1 e _ fun v H2 e2 r => h1 H2 (e.trans e2) _ fun H3 e3 => h2 H3 ((e.trans e2).trans e3) _ fun H4 e4 => by
    have r := r.mono (e3.trans e4)
    cases r with
    | lst ha rs => exact ⟨_, _, rfl, sq_of ha, fun p hp => q _ _ (((e2.trans e3).trans e4).trans (Ex.new hp)) (.lst upd_same (by rw [cutV_from _ _ (by rw [rs.length]; exact hn)]; exact (rs.drop n).mono (Ex.new hp)))⟩
theorem en_takeT {ts : List Th} {n : Nat} {tl th : TO} (h : En K te σ H (.tup ts)) (h1 : EvO tl σ H none) (h2 : EvO th σ H (some (n : Nat))) : En K (tSl (rSlA K) te tl th) σ H (.tup (ts.take n)) := fun H1 e Q q =>
  h H1 e _ fun v H2 e2 r => h1 H2 (e.trans e2) _ fun H3 e3 => h2 H3 ((e.trans e2).trans e3) _ fun H4 e4 => by
    have r := r.mono (e3.trans e4)
    have e24 := (e2.trans e3).trans e4
    cases r with
    | tup ha rs =>
      refine ⟨_, _, rfl, ha, fun hw => ?_, fun _ p hp => q _ _ (e24.trans (Ex.new hp)) (.tup (st_of upd_same) (by rw [cutV_to]; exact (rs.take n).mono (Ex.new hp)))⟩
      have hw := hw.2
      rw [HT.sIx_nat, rs.length] at hw
      rw [List.take_of_length_le (by omega)] at q
      exact q _ _ e24 (.tup ha rs)
theorem en_dropT {ts : List Th} {n : Nat} {tl th : TO} (h : En K te σ H (.tup ts)) (h1 : EvO tl σ H (some (n : Nat))) (h2 : EvO th σ H none) (hn : n ≤ ts.length) : En K (tSl (rSlA K) te tl th) σ H (.tup (ts.drop n)) := fun H1 e Q q =>
  h H1 e _ fun v H2 e2 r => h1 H2 (e.trans e2) _ fun H3 e3 => h2 H3 ((e.trans e2).trans e3) _ fun H4 e4 => by
    have r := r.mono (e3.trans e4)
    have e24 := (e2.trans e3).trans e4
    cases r with
    | tup ha rs =>
      refine ⟨_, _, rfl, ha, fun hw => ?_, fun _ p hp => q _ _ (e24.trans (Ex.new hp)) (.tup (st_of upd_same) (by rw [cutV_from _ _ (by rw [rs.length]; exact hn)]; exact (rs.drop n).mono (Ex.new hp)))⟩
      have hw := hw.1
      rw [HT.sIx_nat, rs.length, Nat.min_eq_left hn] at hw
      rw [hw, List.drop_zero] at q
      exact q _ _ e24 (.tup ha rs)
theorem en_catT {ts us : List Th} (h1 : En K ta σ H (.tup ts)) (h2 : En K tb σ H (.tup us)) (hl : ts.length + us.length ≤ 1000) : En K (tOp (rCatA K) ta tb) σ H (.tup (ts ++ us)) := fun H1 e Q q =>
  h1 H1 e _ fun v H2 e2 r => h2 H2 (e.trans e2) _ fun v3 H3 e3 r3 => by
    have r := r.mono e3
    cases r with
    | tup ha rs =>
      cases r3 with
      | tup hb rs3 =>
        refine ⟨_, _, _, _, rfl, rfl, ha, hb, sz_of (by rw [rs.length, rs3.length]; omega), fun hx => ?_, fun hx hy => ?_, fun hx hy p hp => q _ _ ((e2.trans e3).trans (Ex.new hp)) (.tup (st_of upd_same) ((rs.append rs3).mono (Ex.new hp)))⟩
        · subst hx
          cases rs
          exact q _ _ (e2.trans e3) (.tup hb rs3)
        · subst hy
          cases rs3
          rw [List.append_nil] at q
          exact q _ _ (e2.trans e3) (.tup ha rs)
theorem en_listL {ts : List Th} (h : En K te σ H (.lst ts)) : En K (tCB (rListS K) (tCons te tNil)) σ H (.lst ts) := fun H1 e Q q =>
  h H1 e _ fun v H2 e2 r => by
    cases r with
    | lst ha rs => exact ⟨_, _, rfl, .inl (sq_of ha), fun p hp => q _ _ (e2.trans (Ex.new hp)) (.lst upd_same (rs.mono (Ex.new hp)))⟩
theorem el_listT {p : Addr} {xs : List V} (ha : Ev ta σ H (.ref p)) (h : SqT K H p xs) : EvL (tCB (rListS K) (tCons ta tNil)) σ H xs := fun H1 e Q q =>
  ha H1 e _ fun H2 e2 => ⟨p, xs, rfl, .inr (ex_t (e.trans e2) h), fun l hl => q l _ (fresh_back e2 hl) (e2.trans (Ex.new hl)) upd_same⟩
theorem ev_intB {b : Bool} (h : Ev ta σ H (.bl b)) : Ev (tCB (fun xs H Q => (∃ i, xs = [.int i] ∧ Q (.int i) H) ∨ ∃ k, xs = [.bl k] ∧ Q (.int (if k then 1 else 0)) H) (tCons ta tNil)) σ H (.int (if b then 1 else 0)) := ev_cb (ea_cons h ea_nil) fun H1 e Q q => .inr ⟨b, rfl, q H1 (Ex.refl _)⟩
end
end K0
/-! ## KG -/
set_option Elab.async false
set_option linter.all false
set_option maxRecDepth 100000
set_option maxHeartbeats 4000000
namespace K0
open PySem PySem.Spec PyProof.Rows L2 Evl RZ KB
/-! the theory of good data, without a row (from K1B and K1C) -/
theorem adm_nil : ∀ x ∈ ([] : List Th), Adm x := fun _ h => nomatch h
theorem adm_cons {t : Th} {ts : List Th} (h : Adm t) (hs : ∀ x ∈ ts, Adm x) : ∀ x ∈ t :: ts, Adm x := fun x hx => by
  rcases List.mem_cons.mp hx with rfl | hx
  · exact h
  · exact hs x hx
theorem adm_all : ∀ {ts : List Th}, (∀ x ∈ ts, Adm x) → szL ts = true ∧ flL ts = true
  | [], _ => ⟨rfl, rfl⟩
  | t :: ts, h => by
    obtain ⟨h1, h2⟩ := adm_all fun x hx => h x (List.mem_cons_of_mem t hx)
    have a := h t List.mem_cons_self
    exact ⟨by show (szB t && szL ts) = true; rw [a.sz, h1]; rfl, by show (flB t && flL ts) = true; rw [a.fl, h2]; rfl⟩
theorem adm_tup {ts : List Th} (h : ∀ x ∈ ts, Adm x) (hl : ts.length ≤ 1000) (hh : headOk ts = true) : Adm (.tup ts) := by
  obtain ⟨h1, h2⟩ := adm_all h
  exact ⟨by show (decide (ts.length ≤ 1000) && szL ts) = true; rw [decide_eq_true hl, h1]; rfl, by show (headOk ts && flL ts) = true; rw [hh, h2]; rfl⟩
theorem adm_lst {ts : List Th} (h : ∀ x ∈ ts, Adm x) (hl : ts.length ≤ 1000) : Adm (.lst ts) := by
  obtain ⟨h1, h2⟩ := adm_all h
  exact ⟨by show (decide (ts.length ≤ 1000) && szL ts) = true; rw [decide_eq_true hl, h1]; rfl, h2⟩
theorem adm_str (s : Str) (h : s.length ≤ 50000) : Adm (.str s) := ⟨decide_eq_true h, rfl⟩
theorem adm_non : Adm .non := ⟨rfl, rfl⟩
theorem head_ok : ∀ ts : List Th, headOk ts = true := by
  intro ts
  unfold headOk
  split
  · exact Bool.or_true _
  · rfl
theorem lookS {w : Str} {l : List Str} (h : decide (t_STATEMENTS.lookup w = some l) = true) : t_STATEMENTS.lookup w = some l := of_decide_eq_true h
theorem fw_str (w : Str) (us : List Th) : fw (.tup (.str w :: us)) = w := rfl
/-- a statement all of whose parts stand -/
theorem st_good {w : Str} {l : List Str} {us : List Th} (hl : t_STATEMENTS.lookup w = some l) (hn : us.length = l.length) (hp : ∀ p ∈ l.zip us, partB (exprB 5) p.1 p.2 = true) (hr : restB w (.str w :: us) = true) (hf : fitsB (.tup (.str w :: us)) 1 "top" false = true) : goodB (.tup (.str w :: us)) = true := by
  have h1 : stmtB (.tup (.str w :: us)) = true := by
    show (partsB (exprB 5) (t_STATEMENTS.lookup (fw (.tup (.str w :: us)))) (.tup (.str w :: us)) && restB (fw (.tup (.str w :: us))) (.str w :: us)) = true
    rw [fw_str, hl, hr, Bool.and_true]
    show (decide ((Th.str w :: us).length = l.length + 1) && (l.zip ((Th.str w :: us).drop 1)).all fun p => partB (exprB 5) p.1 p.2) = true
    rw [decide_eq_true (by rw [List.length_cons, hn]), Bool.true_and]
    exact List.all_eq_true.mpr fun p h => hp p h
  unfold goodB
  rw [h1, hf]
  rfl
theorem st_bad {w : Str} {l : List Str} {us : List Th} {i : Nat} {k : Str} {u : Th} (hl : t_STATEMENTS.lookup w = some l) (hk : l[i]? = some k) (hu : us[i]? = some u) (hb : partB (exprB 5) k u = false) : goodB (.tup (.str w :: us)) = false := by
  cases h : goodB (.tup (.str w :: us)) with
  | false => rfl
  | true =>
    have hs : stmtB (.tup (.str w :: us)) = true := (Bool.and_eq_true_iff.mp h).1
    obtain ⟨w', l', ts', e1, e2, e3, e4, e5⟩ := stmt_parts hs
    cases e1
    rw [hl] at e3
    cases e3
    have h9 := e5 i k u hk hu
    rw [hb] at h9
    cases h9
theorem st_rest {w : Str} {us : List Th} (hr : restB w (.str w :: us) = false) : goodB (.tup (.str w :: us)) = false := by
  unfold goodB stmtB
  show ((_ && restB (fw (.tup (.str w :: us))) (.str w :: us)) && _) = false
  rw [fw_str, hr, Bool.and_false, Bool.false_and]
/-- an expression all of whose parts stand -/
theorem ex_good {n : Nat} {w : Str} {l : List Str} {us : List Th} (hl : t_EXPRESSIONS.lookup w = some l) (hn : us.length = l.length) (hp : ∀ p ∈ l.zip us, partB (exprB n) p.1 p.2 = true) : exprB (n + 1) (.tup (.str w :: us)) = true := by
  show partsB (exprB n) (t_EXPRESSIONS.lookup (fw (.tup (.str w :: us)))) (.tup (.str w :: us)) = true
  rw [fw_str, hl]
  show (decide ((Th.str w :: us).length = l.length + 1) && (l.zip ((Th.str w :: us).drop 1)).all fun p => partB (exprB n) p.1 p.2) = true
  rw [decide_eq_true (by rw [List.length_cons, hn]), Bool.true_and]
  exact List.all_eq_true.mpr fun p h => hp p h
theorem ex_bad {n : Nat} {w : Str} {l : List Str} {us : List Th} {i : Nat} {k : Str} {u : Th} (hl : t_EXPRESSIONS.lookup w = some l) (hk : l[i]? = some k) (hu : us[i]? = some u) (hb : partB (exprB n) k u = false) : exprB (n + 1) (.tup (.str w :: us)) = false := by
  cases h : exprB (n + 1) (.tup (.str w :: us)) with
  | false => rfl
  | true =>
    obtain ⟨l', ts', e1, e2, e3, e4⟩ := parts_some (show partsB (exprB n) (t_EXPRESSIONS.lookup (fw (.tup (.str w :: us)))) (.tup (.str w :: us)) = true from h)
    rw [fw_str, hl] at e1
    cases e1
    cases e2
    have h9 := e4 i k u hk hu
    rw [hb] at h9
    cases h9
section
variable {E : Th → Bool} {s : Str} {u : Th}
theorem zp_nil {us : List Th} : ∀ p ∈ ([] : List Str).zip us, partB E p.1 p.2 = true := fun p h => by simp at h
theorem zp_cons {k : Str} {ks : List Str} {u : Th} {us : List Th} (h : partB E k u = true) (hs : ∀ p ∈ ks.zip us, partB E p.1 p.2 = true) : ∀ p ∈ (k :: ks).zip (u :: us), partB E p.1 p.2 = true := fun p hp => by
  rw [List.zip_cons_cons] at hp
  rcases List.mem_cons.mp hp with rfl | hp
  · exact h
  · exact hs p hp
theorem lookE {w : Str} {l : List Str} (h : decide (t_EXPRESSIONS.lookup w = some l) = true) : t_EXPRESSIONS.lookup w = some l := of_decide_eq_true h
theorem p_name : partB E "name" u = isNameT u := by kernel_rfl
theorem p_perh : partB E "perhaps a name" u = isPerhapsT u := by kernel_rfl
theorem p_expr : partB E "expression" u = E u := by kernel_rfl
theorem p_para : partB E "parameters" u = paramB u := by kernel_rfl
theorem p_meth : partB E "methods" u = methodsB u := by kernel_rfl
theorem p_pexp : partB E "perhaps an expression" u = (isNonT u || E u) := by kernel_rfl
end
end K0
/-! ## K2A -/
set_option Elab.async false
set_option linter.all false
set_option maxRecDepth 100000
set_option maxHeartbeats 4000000
namespace K0
open PySem PySem.Spec PyProof.Rows L2 Evl RZ KB
/-! how deep an expression can be; what a statement brings -/
theorem dpL_le {ts : List Th} {n : Nat} (h : ∀ t ∈ ts, dpT t ≤ n) : dpL ts ≤ n := by
  induction ts with
  | nil => exact Nat.zero_le _
  | cons t ts ih =>
    show max (dpT t) (dpL ts) ≤ n
    exact Nat.max_le.mpr ⟨h t List.mem_cons_self, ih fun u hu => h u (List.mem_cons_of_mem _ hu)⟩
def exprKinds : List Str := ["expression", "items", "rows", "number", "phrase", "name", "sign"]
theorem tab_ek : (t_EXPRESSIONS.all fun p => p.2.all fun k => decide (k ∈ exprKinds)) = true := by decide +kernel
theorem part_dp {n d : Nat} (ih : ∀ t, exprB n t = true → dpT t ≤ d) {k : Str} {u : Th} (hk : k ∈ exprKinds) (h : partB (exprB n) k u = true) : dpT u ≤ d + 2 := by
  have flat0 : (∀ ts, u ≠ .lst ts) → (∀ ts, u ≠ .tup ts) → dpT u ≤ d + 2 := fun h1 h2 => by
    cases u with
    | lst ts => exact absurd rfl (h1 ts)
    | tup ts => exact absurd rfl (h2 ts)
    | _ => exact Nat.zero_le _
  simp only [exprKinds, List.mem_cons, List.not_mem_nil, or_false] at hk
  rcases hk with rfl | rfl | rfl | rfl | rfl | rfl | rfl
  · exact Nat.le_trans (ih u h) (by omega)
  · have h : exprsB (exprB n) 4 u = true := h
    cases u with
    | lst ts =>
      have h2 := (Bool.and_eq_true_iff.mp (show (decide (ts.length ≤ 4) && ts.all (exprB n)) = true from h)).2
      show dpL ts + 1 ≤ d + 2
      have := dpL_le (n := d) fun t ht => ih t (List.all_eq_true.mp h2 t ht)
      omega
    | _ => cases h
  · have h : rowsB (exprB n) u = true := h
    cases u with
    | lst ts =>
      have h2 := (Bool.and_eq_true_iff.mp (show (decide (ts.length ≤ 4) && ts.all (rowB (exprB n))) = true from h)).2
      show dpL ts + 1 ≤ d + 2
      have := dpL_le (ts := ts) (n := d + 1) fun t ht => by
        have h3 := List.all_eq_true.mp h2 t ht
        cases t with
        | tup us =>
          have h4 := (Bool.and_eq_true_iff.mp (show (decide (us.length = 2) && us.all (exprB n)) = true from h3)).2
          show dpL us + 1 ≤ d + 1
          have := dpL_le (n := d) fun t ht => ih t (List.all_eq_true.mp h4 t ht)
          omega
        | _ => cases h3
      omega
    | _ => cases h
  · have h : isNumT u = true := h
    exact flat0 (fun ts q => by subst q; cases h) (fun ts q => by subst q; cases h)
  · have h : isPhraseT u = true := h
    exact flat0 (fun ts q => by subst q; cases h) (fun ts q => by subst q; cases h)
  · have h : isNameT u = true := h
    exact flat0 (fun ts q => by subst q; cases h) (fun ts q => by subst q; cases h)
  · have h : isSignT u = true := h
    exact flat0 (fun ts q => by subst q; cases h) (fun ts q => by subst q; cases h)
theorem expr_dp : ∀ (n : Nat) (t : Th), exprB n t = true → dpT t ≤ 3 * n
  | 0, _, h => by cases h
  | n + 1, t, h => by
    obtain ⟨l, ts, e1, rfl, e2, e3⟩ := parts_some (show partsB (exprB n) (t_EXPRESSIONS.lookup (fw t)) t = true from h)
    obtain ⟨w, us, e4, _⟩ := fw_tup rfl e1
    cases e4
    have hk := List.all_eq_true.mp (List.all_eq_true.mp tab_ek _ (lookup_mem e1))
    show dpL (.str w :: us) + 1 ≤ 3 * (n + 1)
    have := dpL_le (ts := .str w :: us) (n := 3 * n + 2) fun t ht => by
      rcases List.mem_cons.mp ht with rfl | ht
      · exact Nat.zero_le _
      · obtain ⟨i, hi⟩ := List.getElem?_of_mem ht
        have hil : i < l.length := by
          have := (List.getElem?_eq_some_iff.mp hi).1
          simp only [List.length_cons] at e2
          omega
        have hl : l[i]? = some l[i] := by simp [hil]
        exact part_dp (expr_dp n) (of_decide_eq_true (hk _ (List.getElem_mem hil))) (e3 i l[i] t hl (by simpa using hi))
    omega
theorem flat_len {α β : Type} {f : α → List β} {c : Nat} : ∀ {l : List α}, (∀ p ∈ l, (f p).length ≤ c) → (l.flatMap f).length ≤ c * l.length
  | [], _ => by simp
  | a :: l, h => by
    rw [List.flatMap_cons, List.length_append, List.length_cons, Nat.mul_succ]
    have h1 := h a List.mem_cons_self
    have h2 := flat_len (l := l) fun p hp => h p (List.mem_cons_of_mem _ hp)
    omega
/-- of the parts of a statement -/
theorem of_parts {t : Th} (h : stmtB t = true) (f : Str → Th → List Th) : ∃ (w : Str) (l : List Str) (ts : List Th), t = .tup (.str w :: ts) ∧ l.length ≤ 10 ∧ ofT f t = (l.zip ts).flatMap (fun p => f p.1 p.2) ∧ ∀ p ∈ l.zip ts, partB (exprB 5) p.1 p.2 = true ∧ p.2 ∈ ts := by
  obtain ⟨w, l, ts, rfl, hw, hl, hn, hp⟩ := stmt_parts h
  refine ⟨w, l, ts, rfl, tab_len hl, ?_, fun p hp2 => ?_⟩
  · show (((t_STATEMENTS.lookup (fw (.tup (.str w :: ts)))).getD []).zip ts).flatMap _ = _
    rw [hw, hl]
    rfl
  · obtain ⟨i, hi⟩ := List.getElem?_of_mem hp2
    obtain ⟨p1, p2⟩ := zip_at hi
    exact ⟨hp i p.1 p.2 p1 p2, List.mem_of_getElem? p2⟩
theorem adm_mem {ts : List Th} (h : Adm (.tup ts)) : ∀ t ∈ ts, Adm t := fun t ht => by
  obtain ⟨i, hi⟩ := List.getElem?_of_mem ht
  exact h.tup.2.2 i t hi
theorem adm_memL {ts : List Th} (h : Adm (.lst ts)) : ∀ t ∈ ts, Adm t := fun t ht => by
  obtain ⟨i, hi⟩ := List.getElem?_of_mem ht
  exact h.lst.2 i t hi
theorem ex_part {k : Str} {u : Th} (h : partB (exprB 5) k u = true) : (exOf1 k u).length ≤ 4 ∧ ∀ e ∈ exOf1 k u, exprB 5 e = true ∧ (e = u ∨ ∃ us, u = .lst us ∧ e ∈ us) := by
  unfold exOf1
  split
  · rename_i hk
    subst hk
    have h : exprsB (exprB 5) 3 u = true := h
    cases u with
    | lst us =>
      obtain ⟨h1, h2⟩ := Bool.and_eq_true_iff.mp (show (decide (us.length ≤ 3) && us.all (exprB 5)) = true from h)
      have := of_decide_eq_true h1
      exact ⟨by show us.length ≤ 4; omega, fun e he => ⟨List.all_eq_true.mp h2 e he, .inr ⟨us, rfl, he⟩⟩⟩
    | _ => cases h
  · split
    · rename_i hk
      refine ⟨by simp, fun e he => ?_⟩
      rw [List.mem_singleton.mp he]
      refine ⟨?_, .inl rfl⟩
      rcases hk with rfl | ⟨rfl, h0⟩
      · exact h
      · have h : (isNonT u || exprB 5 u) = true := h
        rw [h0, Bool.false_or] at h
        exact h
    · exact ⟨by simp, fun e he => by simp at he⟩
theorem bl_part {k : Str} {u : Th} (h : partB (exprB 5) k u = true) : (blOf1 k u).length ≤ 4 ∧ ∀ b ∈ blOf1 k u, isLst b = true ∧ (Adm u → Adm b) := by
  unfold blOf1
  split
  · rename_i hk
    subst hk
    refine ⟨by simp, fun b hb => ?_⟩
    rw [List.mem_singleton.mp hb]
    exact ⟨h, id⟩
  · split
    · rename_i hk
      subst hk
      have h : methodsB u = true := h
      cases u with
      | lst us =>
        obtain ⟨h1, h2⟩ := Bool.and_eq_true_iff.mp (show (decide (us.length ≤ 4) && (us.all methodB && decide (dc (us.map headOf) = us.length))) = true from h)
        have h3 := (Bool.and_eq_true_iff.mp h2).1
        refine ⟨by rw [List.length_map]; exact of_decide_eq_true h1, fun b hb => ?_⟩
        obtain ⟨m, hm, rfl⟩ := List.mem_map.mp hb
        have h4 := List.all_eq_true.mp h3 m hm
        unfold methodB at h4
        split at h4
        · rename_i n ps b
          have h5 := (Bool.and_eq_true_iff.mp (Bool.and_eq_true_iff.mp (Bool.and_eq_true_iff.mp h4).2).2).2
          refine ⟨h5, fun a => ?_⟩
          exact adm_mem (adm_memL a _ hm) b (by simp)
        · cases h4
      | _ => cases h
    · exact ⟨by simp, fun b hb => by simp at hb⟩
/-- all that the survey asks of a statement -/
theorem stmt_adm {t : Th} (a : Adm t) (h : stmtB t = true) : dpL (ofT exOf1 t) < 40 ∧ Adm (.lst (ofT exOf1 t)) ∧ (ofT blOf1 t).length ≤ 40 ∧ ∀ b ∈ ofT blOf1 t, ∃ us, b = .lst us ∧ Adm b := by
  obtain ⟨w, l, ts, rfl, hl, he, hp⟩ := of_parts h exOf1
  obtain ⟨w2, l2, ts2, e2, hl2, hb, hp2⟩ := of_parts h blOf1
  cases e2
  have am := adm_mem a
  have hzl : (l.zip ts).length ≤ 10 := by rw [List.length_zip]; omega
  have hzl2 : (l2.zip ts).length ≤ 10 := by rw [List.length_zip]; omega
  refine ⟨?_, ?_, ?_, ?_⟩
  · have : dpL (ofT exOf1 (.tup (.str w :: ts))) ≤ 15 := dpL_le fun e hee => by
      rw [he] at hee
      obtain ⟨p, hp1, hp3⟩ := List.mem_flatMap.mp hee
      exact expr_dp 5 e ((ex_part (hp p hp1).1).2 e hp3).1
    omega
  · refine adm_lst (fun e hee => ?_) ?_
    · rw [he] at hee
      obtain ⟨p, hp1, hp3⟩ := List.mem_flatMap.mp hee
      have au := am p.2 (List.mem_cons_of_mem _ (hp p hp1).2)
      rcases ((ex_part (hp p hp1).1).2 e hp3).2 with q | ⟨us, q1, q2⟩
      · rw [q]
        exact au
      · rw [q1] at au
        exact adm_memL au e q2
    · rw [he]
      have := flat_len (c := 4) fun p hp1 => (ex_part (hp p hp1).1).1
      omega
  · rw [hb]
    have := flat_len (c := 4) fun p hp1 => (bl_part (hp2 p hp1).1).1
    omega
  · intro b hbb
    rw [hb] at hbb
    obtain ⟨p, hp1, hp3⟩ := List.mem_flatMap.mp hbb
    have au := am p.2 (List.mem_cons_of_mem _ (hp2 p hp1).2)
    obtain ⟨q1, q2⟩ := (bl_part (hp2 p hp1).1).2 b hp3
    cases b with
    | lst us => exact ⟨us, rfl, q2 au⟩
    | _ => cases q1
end K0
/-! ## K2B -/
set_option Elab.async false
set_option linter.all false
set_option maxRecDepth 100000
set_option maxHeartbeats 8000000
namespace K0
open PySem PySem.Spec PyProof.Rows L2 Evl RZ KB
/-! the survey of any block -/
structure Row where
  p : List Nat
  t : Th
  d : Int
  r : Str
  l : Bool
def pV (p : List Nat) : List V := p.map fun n => .int ((n : Nat) : Int)
def Row.last (w : Row) : Nat := w.p.getLastD 0
def rowsAt (p : List Nat) (d : Int) (r : Str) (l : Bool) (ts : List Th) : List Row := (ts.take 13).zipIdx.map fun x => ⟨p ++ [x.2], x.1, d, r, l⟩
def inner1 (w : Row) (x : Th × Nat) : List Row := rowsAt (w.p ++ [x.2]) (w.d + 1) (inR (fw w.t) w.r) (inL (fw w.t) w.l) (elems x.1)
def innerRows (w : Row) : List Row := (ofT blOf1 w.t).zipIdx.flatMap (inner1 w)
def okRow (w : Row) : Bool := stmtB w.t && fitsB w.t w.d w.r w.l
def surveyM : Nat → List Row → List Row → List Row × Option (List Nat)
  | 0, fo, _ => (fo, none)
  | _ + 1, fo, [] => (fo, none)
  | n + 1, fo, w :: ws => if (decide (fo.length = 80) || decide (w.last = 12)) = true then (fo, some w.p) else if okRow w = true then surveyM n (fo ++ [w]) (innerRows w ++ ws) else (fo, some w.p)
def surveyT (ts : List Th) : List Row × Option (List Nat) := surveyM 82 [] (rowsAt [] 1 "top" false ts)
section
variable {α β : Type} {R : α → β → Prop}
theorem paired_app {a c : List α} {b d : List β} (h : Paired R a b) (h2 : Paired R c d) : Paired R (a ++ c) (b ++ d) := by
  induction h with
  | nil => exact h2
  | cons x _ ih => exact .cons x ih
theorem paired_rev {a : List α} {b : List β} (h : Paired R a b) : Paired R a.reverse b.reverse := by
  induction h with
  | nil => exact .nil
  | cons x _ ih =>
    rw [List.reverse_cons, List.reverse_cons]
    exact paired_app ih (.cons x .nil)
theorem paired_snoc {a : List α} {b : List β} {y : β} (h : Paired R a (b ++ [y])) : ∃ c x, a = c ++ [x] ∧ Paired R c b ∧ R x y := by
  have h2 := paired_rev h
  rw [List.reverse_append] at h2
  generalize hr : a.reverse = ar at h2
  cases h2 with
  | @cons x _ as _ hx ht =>
    refine ⟨as.reverse, x, ?_, ?_, hx⟩
    · rw [← List.reverse_reverse a, hr, List.reverse_cons]
    · have := paired_rev (show Paired R as ([] ++ b.reverse) from ht)
      rwa [List.nil_append, List.reverse_reverse] at this
theorem paired_of : ∀ {a : List α} {b : List β}, a.length = b.length → (∀ (i : Nat) (x : α) (y : β), a[i]? = some x → b[i]? = some y → R x y) → Paired R a b
  | [], [], _, _ => .nil
  | [], _ :: _, h, _ => by cases h
  | _ :: _, [], h, _ => by cases h
  | x :: a, y :: b, h, k => .cons (k 0 x y rfl rfl) (paired_of (by simpa using h) fun i u v h1 h2 => k (i + 1) u v (by simpa using h1) (by simpa using h2))
end
theorem rowsAt_get {p : List Nat} {d : Int} {r : Str} {l : Bool} {ts : List Th} {i : Nat} {w : Row} (h : (rowsAt p d r l ts)[i]? = some w) : ∃ t, ts[i]? = some t ∧ w = ⟨p ++ [i], t, d, r, l⟩ := by
  unfold rowsAt at h
  rw [List.getElem?_map, List.getElem?_zipIdx, List.getElem?_take] at h
  split at h
  · cases ht : ts[i]? with
    | none =>
      rw [ht] at h
      cases h
    | some t =>
      rw [ht] at h
      refine ⟨t, rfl, ?_⟩
      have h9 := Option.some.inj h
      rw [← h9]
      simp
  · cases h
theorem rowsAt_len (p : List Nat) (d : Int) (r : Str) (l : Bool) (ts : List Th) : (rowsAt p d r l ts).length = (ts.take 13).length := by
  unfold rowsAt
  rw [List.length_map, List.length_zipIdx]
theorem atI_last (xs : List V) (v : V) : atI (xs ++ [v]) (-1) = some v := by
  have h : ixN (xs ++ [v]).length (-1) = some xs.length := by
    unfold ixN
    rw [if_neg (by decide), List.length_append, List.length_singleton, if_pos (by omega)]
    congr 1
    omega
  unfold atI
  rw [h]
  simp
section
variable {P : Program} {w : World} {K : PySem.W.Frag} {mg : Str → Option Value} {base : Heap} {σ : L2.St} {H H' H0 : Hp} {ta tb tc td te tl tv tk to : TE} {x y kv : V} {X0 : XK} {tu tz : TS} {D : Ends} {g : TG} {R : V → Hp → Prop}
def RowIs (K : PySem.W.Frag) (H0 H : Hp) (v : V) (w : Row) : Prop := ∃ x pa, RowV H v (pV w.p) x pa ∧ Rep K H0 x w.t ∧ Adm w.t ∧ PlaceAt K H pa w.d w.r w.l ∧ ((w.p.length : Int) = 2 * w.d - 1 ∧ w.d ≤ 8) ∧ ∃ q k, w.p = q ++ [k]
theorem RowIs.mono {v : V} {r : Row} (e : Ex H H') (h : RowIs K H0 H v r) : RowIs K H0 H' v r := by
  obtain ⟨x, pa, h1, h2, h3, h4, h5⟩ := h
  exact ⟨x, pa, h1.mono e, h2, h3, h4.mono e, h5⟩
theorem RowIs.exo {v : V} {r : Row} {o : Addr} {acc : List V} (ho : H o = some (.lst acc)) (e : ExO o H H') (h : RowIs K H0 H v r) : RowIs K H0 H' v r := by
  obtain ⟨x, pa, h1, h2, h3, ⟨dx, h4⟩, h5⟩ := h
  refine ⟨x, pa, h1.exo ho e, h2, h3, ⟨dx, e _ _ (fun z => ?_) h4⟩, h5⟩
  rw [z, ho] at h4
  cases h4
abbrev RowsAre (K : PySem.W.Frag) (H0 H : Hp) : List V → List Row → Prop := Paired (RowIs K H0 H)
theorem rows_mono {vs : List V} {rs : List Row} (e : Ex H H') (h : RowsAre K H0 H vs rs) : RowsAre K H0 H' vs rs := Paired.mapP h fun _ _ q => q.mono e
theorem rows_exo {vs : List V} {rs : List Row} {o : Addr} {acc : List V} (ho : H o = some (.lst acc)) (e : ExO o H H') (h : RowsAre K H0 H vs rs) : RowsAre K H0 H' vs rs := Paired.mapP h fun _ _ q => q.exo ho e
/-- what _rows gives -/
theorem rows_of {b at_ pl : Addr} {xs vs : List V} {ts : List Th} {p : List Nat} {d : Int} {r : Str} {l : Bool} (rs : Reps K H0 xs ts) (ha : Adm (.lst ts)) (hl : vs.length = (xs.take 13).length) (hp : (p.length : Int) = 2 * (d - 1) ∧ d ≤ 8) (pl1 : PlaceAt K H pl d r l)
    (h : ∀ (i : Nat) (v : V), vs[i]? = some v → ∃ x, xs[i]? = some x ∧ RowV H v (pV p ++ [.int (i : Nat)]) x pl) : RowsAre K H0 H vs (rowsAt p d r l ts) := by
  refine paired_of (by rw [hl, rowsAt_len, List.length_take, List.length_take, rs.length]) fun i v w hv hw => ?_
  obtain ⟨t, ht, rfl⟩ := rowsAt_get hw
  obtain ⟨x, hx, hr⟩ := h i v hv
  obtain ⟨t', ht', rt⟩ := rs.get hx
  rw [ht] at ht'
  cases ht'
  refine ⟨x, pl, ?_, rt, ha.lst.2 i t ht, pl1, ⟨by rw [List.length_append, List.length_singleton]; show ((p.length + 1 : Nat) : Int) = 2 * d - 1; have := hp.1; omega, hp.2⟩, p, i, rfl⟩
  rw [show pV (p ++ [i]) = pV p ++ [.int ((i : Nat) : Int)] by unfold pV; rw [List.map_append]; rfl]
  exact hr
theorem er_rows {E : XK} {b pl : Addr} {xs : List V} {ts : List Th} {p : List Nat} {d : Int} {r : Str} {l : Bool} (h1 : Ev ta σ H (.ref b)) (hb : H b = some (.lst xs)) (rs : Reps K H0 xs ts) (ad : Adm (.lst ts)) (h2 : EvR tb σ H (fun v H' => ∃ a, v = .ref a ∧ SqT K H' a (pV p))) (hp : (p.length : Int) = 2 * (d - 1) ∧ d ≤ 8) (h3 : Ev tc σ H (.ref pl)) (pl1 : PlaceAt K H pl d r l) :
    EvR (tCall (SpRows K) [] E (tCons ta (tCons tb (tCons tc tNil)))) σ H (fun v H' => ∃ q vs, v = .ref q ∧ H q = none ∧ H' q = some (.lst vs) ∧ RowsAre K H0 H' vs (rowsAt p d r l ts)) := by
  intro H1 e Q k
  have hxl : xs.length ≤ 1000 := by rw [rs.length]; exact ad.lst.1
  unfold tCall tCons tNil
  refine h1 H1 e _ fun H2 e2 => h2 H2 (e.trans e2) _ fun v H3 e3 ⟨a, hv, ha⟩ => h3 H3 ((e.trans e2).trans e3) _ fun H4 e4 => ?_
  subst hv
  have e14 := (e2.trans e3).trans e4
  exact ⟨b, a, pl, xs, pV p, rfl, (e.trans e14) _ _ hb, hxl, ex_t e4 ha, by unfold pV; rw [List.length_map]; have := hp.1; have := hp.2; omega, fun q H5 vs hq e5 h5 hl5 hr5 => k _ H5 (e14.trans e5) ⟨q, vs, rfl, fresh_back (e.trans e14) hq, h5, rows_of (b := b) (at_ := a) rs ad hl5 hp (pl1.mono ((e.trans e14).trans e5)) hr5⟩⟩
def SpSurvG (K : PySem.W.Frag) : Sp := fun vs H Q _ => ∃ b xs ts Hr, vs = [.ref b] ∧ H b = some (.lst xs) ∧ Ex Hr H ∧ Reps K Hr xs ts ∧ Adm (.lst ts) ∧
  ∀ p F pv fvs H', H p = none → H F = none → Ex H H' → H' p = some (.tup [.ref F, pv]) → H' F = some (.lst fvs) → RowsAre K Hr H' fvs (surveyT ts).1 →
    (match (surveyT ts).2 with | none => pv = .non | some q => ∃ a, pv = .ref a ∧ H' a = some (.tup (pV q))) → Q (.ref p) H'
def SpOfG (K : PySem.W.Frag) (D : Th → Prop) (f : Th → List Th) : Sp := fun vs H Q _ => ∃ x t Hr, vs = [x] ∧ Ex Hr H ∧ Rep K Hr x t ∧ D t ∧ ∀ p H' vs', H p = none → Ex H H' → H' p = some (.lst vs') → Reps K Hr vs' (f t) → Q (.ref p) H'
/-- for kind, part in zip(kinds, parts): out grows -/
theorem s_gatherG (f : Str → Th → List Th) {b o : Addr} {l : List Str} {ys : List V} {us : List Th} {Hr Hb : Hp} (S : L2.St → Prop) (h1 : Ev ta σ H (.ref b)) (hb : SqT K H b (l.map V.str)) (h2 : EvU te σ H ys) (hlen : ys.length = l.length) (ry : Reps K Hr ys us) (eb : Ex Hb H) (ho : Hb o = none)
    (hH : H o = some (.lst [])) (S0 : S σ) (hsz : ∀ (i : Nat) (k : Str) (u : Th), l[i]? = some k → us[i]? = some u → (f k u).length ≤ 1000)
    (turn : ∀ (i : Nat) (k : Str) (u : Th) (y : V) σ' H' acc, l[i]? = some k → us[i]? = some u → Rep K Hr y u → S σ' → Ex Hb H' → H' o = some (.lst acc) → acc.length ≤ 1000 * i → i < l.length → ∀ D' : Ends,
      (∀ zs H'', Reps K Hr zs (f k u) → ExO o H' H'' → H'' o = some (.lst (acc ++ zs)) → D'.nx ((σ'.set 2 (some (.str k))).set 3 (some y)) H'') → tu D' ((σ'.set 2 (some (.str k))).set 3 (some y)) H')
    (hS : ∀ σ' a b, S σ' → S ((σ'.set 2 a).set 3 b)) (done : ∀ σ' H' vs, S σ' → Ex Hb H' → H' o = some (.lst vs) → Reps K Hr vs ((l.zip us).flatMap fun p => f p.1 p.2) → D.nx σ' H') :
    tFor (iZipA K (tCons ta (tCons te tNil))) (gTup K 2 (gCons (gName 2) (gCons (gName 3) gNil))) tu D σ H := by
  show iZipA K (tCons ta (tCons te tNil)) σ H _
  refine ei_zipTail h1 hb h2 H (Ex.refl H) _ fun p H2 e2 hb2 hp2 => ?_
  have hul : us.length = l.length := by rw [← ry.length, hlen]
  have hzl : (l.zip us).length = l.length := by rw [List.length_zip, hul, Nat.min_self]
  refine for_it (walk_zipT (K := K) (n := l.length) (a := b) (b := p) (xs := l.map V.str) (ys := ys) (by rw [List.length_map, hlen, Nat.min_self]))
    (fun i σ' H' => S σ' ∧ Ex Hb H' ∧ SqT K H' b (l.map V.str) ∧ SqT K H' p ys ∧ ∃ vs, H' o = some (.lst vs) ∧ Reps K Hr vs (((l.zip us).take i).flatMap fun p => f p.1 p.2) ∧ vs.length ≤ 1000 * i)
    ⟨S0, eb.trans e2, hb2, st_of hp2, [], e2 _ _ hH, by rw [List.take_zero]; exact .nil, Nat.zero_le _⟩ (fun i σ' H' _ q => ⟨q.2.2.1, q.2.2.2.1⟩) ?_ ?_
  · rintro i v σ' H' H'' hi ⟨q1, q2, q3, q4, vs, q5, q6, q7⟩ ⟨T, v1, v2, rfl, hT, rfl, g1, g2⟩
    obtain ⟨k, hk⟩ : ∃ k, l[i]? = some k := ⟨l[i]'hi, by simp⟩
    have g1' : v1 = .str k := by
      have g1 : (l.map V.str)[i]? = some v1 := g1
      rw [List.getElem?_map, hk] at g1
      exact (Option.some.inj g1).symm
    subst g1'
    obtain ⟨u, hu, ru⟩ := ry.get g2
    have nT : o ≠ T := fun q => by
      rw [← q, q5] at hT
      cases hT
    refine g_pair upd_same ?_
    have hz : (l.zip us)[i]? = some (k, u) := by
      rw [List.getElem?_zip_eq_some]
      exact ⟨hk, hu⟩
    refine turn i k u v2 σ' _ vs hk hu ru q1 (q2.trans (Ex.new hT)) (by rw [upd_ne nT]; exact q5) q7 hi _ fun zs H3 rz e3 h3 => ?_
    have eo : ExO o H' H3 := (ExO.of (Ex.new hT)).trans e3
    refine ⟨hS _ _ _ q1, eo.ex ho q2, eo.sqt q5 q3, eo.sqt q5 q4, vs ++ zs, h3, ?_, ?_⟩
    · rw [flat_take _ _ hz]
      exact q6.append rz
    · have h9 := hsz i k u hk hu
      rw [← rz.length] at h9
      rw [List.length_append]
      omega
  · rintro σ' H' ⟨q1, q2, q3, q4, vs, q5, q6, q7⟩
    rw [← hzl, List.take_length] at q6
    exact done σ' H' vs q1 q2 q5 q6
theorem f_blocks_ofG (z : Cz w K mg) : Cl P w K mg base 1 "blocks_of" (SpOfG K (fun t => Adm t ∧ stmtB t = true) (ofT blOf1)) := by
  refine cal_of (k := 0) z.fn_blocks_of z.glo_blocks_of K0.c_blocks_of (fun vs H Q E h => ?_) (fun cdv A outer s H vs Q _ hr h => ?_)
  · obtain ⟨x, t, Hr, rfl, _⟩ := h
    rfl
  · obtain ⟨x, t, Hr, rfl, er, r, ⟨ad, hs⟩, k⟩ := h
    refine ⟨_, (pss_cons (ps_set (i := 1) K0.c_blocks_of.nd rfl (.inl rfl) (pe_lst pa_nil))
      (pss_cons (ps_for PassesOwn.never rfl (pi_zipA (by rfl) z.free_zip (pa_cons (pe_ix (show IxR _ (rIxD K w) from ix_kdict) (pe_gr z.glo_STATEMENTS) (pe_ix (show IxR _ (rIxT K) from ix_tup) (pv 0) pe_int (fun _ _ => rfl)) (fun _ _ => rfl)) (pa_cons (pe_slice (show SlR _ (rSlA K) from sl_tupA) (pv 0) (po_some pe_int) po_none) pa_nil))) (show PG _ _ (gTup K 2 (gCons (gName 2) (gCons (gName 3) gNil))) from by refine pg_tup rfl (pgs_cons ?g0 (pgs_cons ?g1 pgs_nil)); (case g0 => exact (pg_name (i := 2) K0.c_blocks_of.nd rfl (.inl rfl))); (case g1 => exact (pg_name (i := 3) K0.c_blocks_of.nd rfl (.inl rfl)))) (pss_one (ps_if (pt_cmpR op_eq (pv 2) pe_str (nomark _)) (pss_one (ps_expr (pe_bm PySem.F.plainAttrs_list PySem.F.slot_list_append PySem.F.type_list_append mt_append (pv 1) (pa_cons (pv 3) pa_nil)))) (pss_one (ps_if (pt_cmpR op_eq (pv 2) pe_str (nomark _)) (pss_one (ps_expr (pe_bm PySem.F.plainAttrs_list PySem.F.slot_list_extend PySem.F.type_list_extend mt_extend (pv 1) (pa_cons (pe_lc (own := [("method", 4)]) rfl K0.c_blocks_of.nd (pi_list (pv 3)) (blkOk_by (N := N_blocks_of) (sc := defScope s_blocks_of) (by decide +kernel)) (fun _ _ _ _ _ => (pg_name (i := 4) K0.c_blocks_of.nd rfl (.inl rfl))) (fun _ _ _ _ _ => pts_nil) (fun _ _ _ _ _ => (pe_ix (show IxR _ (rIxT K) from ix_tup) (pv 4) pe_int (fun _ _ => rfl)))) pa_nil)))) pss_nil)))))
      (pss_one (ps_ret (pv 1))))), ?_⟩
    obtain ⟨w0, l, ts, rfl, hw, hl, hlen, hp⟩ := stmt_parts hs
    cases r with
    | tup h rs =>
      rename_i a vs
      have hvl := rs.length
      obtain ⟨v0, hv0, rv0⟩ := rs.get' (i := 0) (t := .str w0) rfl
      cases rv0
      refine q_asgL (el_lst ea_nil (by decide)) fun o H1 ho e1 h1 => ?_
      show tFor _ _ _ _ _ _
      refine s_gatherG (H := H1) (Hr := Hr) (Hb := H) (l := l) (ys := vs.drop 1) (us := ts) (o := o) blOf1 (fun σ' => σ'[0]? = some (some (.ref a)) ∧ σ'[1]? = some (some (.ref o)) ∧ σ'.length = 5) (ev_kix2 z ev_c (ev_ixT (i := 0) (ev_var rfl) (ex_t (er.trans e1) h) hv0) hl) (z.vals_STATEMENTS (lookup_mem hl) _)
        (eu_tail (ev_var rfl) (ex_t (er.trans e1) h) (by rw [hvl, List.length_cons]; omega)) (by rw [List.length_drop, hvl, List.length_cons, hlen]; rfl) (rs.drop 1) e1 ho h1 ⟨rfl, rfl, rfl⟩ ?_ ?_ ?_ ?_
      · intro i k u hk hu
        have au := ad.tup.2.2 (i + 1) u hu
        unfold blOf1
        split
        · simp
        · split
          · rw [List.length_map]
            cases u with
            | lst q => exact au.lst.1
            | _ => exact Nat.zero_le _
          · simp
      · rintro i k u y σ' H' acc hk hu ru ⟨s0, s1, s2⟩ eb hacc hal hi D' kk
        have hi10 := tab_len hl
        have s1' : ((σ'.set 2 (some (.str k))).set 3 (some y))[1]? = some (some (.ref o)) := by
          rw [List.getElem?_set_ne (by decide), List.getElem?_set_ne (by decide)]
          exact s1
        have s2' : ((σ'.set 2 (some (.str k))).set 3 (some y))[2]? = some (some (.str k)) := by
          rw [List.getElem?_set_ne (by decide), List.getElem?_set_self (by omega)]
        have s3' : ((σ'.set 2 (some (.str k))).set 3 (some y))[3]? = some (some y) := by
          rw [List.getElem?_set_self (by rw [List.length_set]; omega)]
        have s4' : ((σ'.set 2 (some (.str k))).set 3 (some y)).length = 5 := by
          rw [List.length_set, List.length_set]
          exact s2
        have hpu := hp i k u hk hu
        refine s_if (b := decide (k = "block")) (et_test (ev_op (ev_var s2') ev_c rv_sEq)) (fun hb H2 e2 => ?_) (fun hb H2 e2 => ?_)
        · have hk' : k = "block" := of_decide_eq_true hb
          subst hk'
          refine s_app (e2 _ _ hacc) (ev_var s1') (ev_var s3') (by omega) fun H4 e4 => ?_
          exact kk [y] _ (.cons ru .nil) (ExO.of (e2.trans e4)).upd upd_same
        · have n1 : ¬ k = "block" := of_decide_eq_false hb
          refine s_when (b := decide (k = "methods")) (et_test (ev_op (ev_var s2') ev_c rv_sEq)) (fun hb2 H3 e3 => ?_) (fun hb2 H3 e3 => ?_)
          · have hk' : k = "methods" := of_decide_eq_true hb2
            subst hk'
            have hm := part_methods hpu
            cases ru with
            | lst hL rl =>
              rename_i bb zs us
              obtain ⟨m1, m2⟩ := Bool.and_eq_true_iff.mp (show (decide (us.length ≤ 4) && (us.all methodB && decide (dc (us.map headOf) = us.length))) = true from hm)
              have hzz : us.length ≤ 4 := of_decide_eq_true m1
              obtain ⟨qs, q1, q2, q3⟩ := thirds rl (Bool.and_eq_true_iff.mp m2).1
              have hz := rl.length
              generalize hσ : (σ'.set 2 (some (.str "methods"))).set 3 (some (.ref bb)) = σ3 at s1' s2' s3' s4' kk
              refine s_extL (zs := qs) ((e2.trans e3) _ _ hacc) (ev_var s1') (el_compL (ev_var s3') (sq_of ((er.trans (eb.trans (e2.trans e3))) _ _ hL)) q1 (by omega) (fun v => ?_) fun i x' y' H4 e4 hx hy => ?_) (by omega) fun H4 e4 => ?_
              · match σ3, s4' with
                | [a0, a1, a2, a3, a4], _ => rfl
              · obtain ⟨a2, us2, rfl, hT2, hy2⟩ := q3 i x' y' hx hy
                refine ev_ixT (i := 2) (ev_var ?_) (ex_t (er.trans (eb.trans ((e2.trans e3).trans e4))) hT2) hy2
                match σ3, s4' with
                | [a0, a1, a2, a3, a4], _ => rfl
              · refine kk qs _ ?_ (ExO.of ((e2.trans e3).trans e4)).upd upd_same
                exact q2
            | _ => cases hm
          · have n2 : ¬ k = "methods" := of_decide_eq_false hb2
            have e9 : blOf1 k u = [] := by
              unfold blOf1
              rw [if_neg n1, if_neg n2]
            refine kk [] _ (by rw [e9]; exact .nil) (ExO.of (e2.trans e3)) ?_
            rw [List.append_nil]
            exact (e2.trans e3) _ _ hacc
      · rintro σ' a1 b1 ⟨s0, s1, s2⟩
        refine ⟨?_, ?_, ?_⟩
        · rw [List.getElem?_set_ne (by decide), List.getElem?_set_ne (by decide)]
          exact s0
        · rw [List.getElem?_set_ne (by decide), List.getElem?_set_ne (by decide)]
          exact s1
        · rw [List.length_set, List.length_set]
          exact s2
      · rintro σ' H' ws ⟨s0, s1, s2⟩ eb hw9 rr
        refine s_ret (ev_var s1) fun H2 e2 => k o H2 ws ho (eb.trans e2) (e2 _ _ hw9) ?_
        show Reps K Hr ws ((((t_STATEMENTS.lookup (fw (.tup (.str w0 :: ts)))).getD []).zip ts).flatMap _)
        rw [hw, hl]
        exact rr
    | _ => cases hs
theorem er_ofG {f : Th → List Th} {D : Th → Prop} {E : XK} {t : Th} (h : Ev ta σ H x) (e0 : Ex H0 H) (r : Rep K H0 x t) (d : D t) : EvR (tCall (SpOfG K D f) [] E (tCons ta tNil)) σ H (fun v H' => ∃ p vs, v = .ref p ∧ H p = none ∧ H' p = some (.lst vs) ∧ Reps K H0 vs (f t)) := fun H1 e Q q =>
  ea_cons h ea_nil H1 e _ fun H2 e2 => ⟨x, t, H0, rfl, e0.trans (e.trans e2), r, d, fun p H3 vs hp e3 h3 rs => q _ H3 (e2.trans e3) ⟨p, vs, rfl, fresh_back (e.trans e2) hp, h3, rs⟩⟩
theorem innerRows_len {w : Row} (h : (ofT blOf1 w.t).length ≤ 40) : (innerRows w).length ≤ 520 := by
  have h2 := flat_len (c := 13) (f := inner1 w) (l := (ofT blOf1 w.t).zipIdx) fun p _ => by
    show (rowsAt _ _ _ _ _).length ≤ 13
    rw [rowsAt_len, List.length_take]
    omega
  rw [List.length_zipIdx] at h2
  unfold innerRows
  omega
/-- the stack and what is found -/
structure Sg (K : PySem.W.Frag) (H0 Hr : Hp) (F Wt : Addr) (fo ws : List Row) (H : Hp) : Prop where
  ex : Ex H0 H
  f : ∃ fvs, H F = some (.lst fvs) ∧ RowsAre K Hr H fvs fo
  w : ∃ wvs, H Wt = some (.lst wvs) ∧ RowsAre K Hr H wvs ws.reverse
theorem Sg.mono {Hr : Hp} {F Wt : Addr} {fo ws : List Row} (s : Sg K H0 Hr F Wt fo ws H) (e : Ex H H') : Sg K H0 Hr F Wt fo ws H' := by
  obtain ⟨ex, ⟨fvs, f1, f2⟩, ⟨wvs, w1, w2⟩⟩ := s
  exact ⟨ex.trans e, ⟨fvs, e _ _ f1, rows_mono e f2⟩, ⟨wvs, e _ _ w1, rows_mono e w2⟩⟩
theorem Sg.updW {Hr : Hp} {F Wt : Addr} {fo ws ws' : List Row} {wvs' : List V} (s : Sg K H0 Hr F Wt fo ws H) (hW : H0 Wt = none) (hne : F ≠ Wt) (h : RowsAre K Hr H wvs' ws'.reverse) : Sg K H0 Hr F Wt fo ws' (upd H Wt (.lst wvs')) := by
  obtain ⟨ex, ⟨fvs, f1, f2⟩, ⟨wvs, w1, w2⟩⟩ := s
  have eo : ExO Wt H (upd H Wt (.lst wvs')) := (ExO.of (Ex.refl _)).upd
  exact ⟨ex.mut hW, ⟨fvs, by rw [upd_ne hne]; exact f1, rows_exo w1 eo f2⟩, ⟨wvs', upd_same, rows_exo w1 eo h⟩⟩
theorem Sg.updF {Hr : Hp} {F Wt : Addr} {fo fo' ws : List Row} {fvs' : List V} (s : Sg K H0 Hr F Wt fo ws H) (hF : H0 F = none) (hne : F ≠ Wt) (h : RowsAre K Hr H fvs' fo') : Sg K H0 Hr F Wt fo' ws (upd H F (.lst fvs')) := by
  obtain ⟨ex, ⟨fvs, f1, f2⟩, ⟨wvs, w1, w2⟩⟩ := s
  have eo : ExO F H (upd H F (.lst fvs')) := (ExO.of (Ex.refl _)).upd
  exact ⟨ex.mut hF, ⟨fvs', upd_same, rows_exo f1 eo h⟩, ⟨wvs, by rw [upd_ne (Ne.symm hne)]; exact w1, rows_exo f1 eo w2⟩⟩
theorem Sg.updI {Hr : Hp} {F Wt I : Addr} {fo ws : List Row} {acc acc' : List V} (s : Sg K H0 Hr F Wt fo ws H) (hI0 : H0 I = none) (n1 : I ≠ F) (n2 : I ≠ Wt) (hI : H I = some (.lst acc)) : Sg K H0 Hr F Wt fo ws (L2.upd H I (.lst acc')) := by
  obtain ⟨ex, ⟨fvs, f1, f2⟩, ⟨wvs, w1, w2⟩⟩ := s
  have eo : ExO I H (L2.upd H I (.lst acc')) := (ExO.of (Ex.refl _)).upd
  exact ⟨ex.mut hI0, ⟨fvs, by rw [upd_ne (Ne.symm n1)]; exact f1, rows_exo hI eo f2⟩, ⟨wvs, by rw [upd_ne (Ne.symm n2)]; exact w1, rows_exo hI eo w2⟩⟩
theorem er_rowsTop {E E' : XK} {b : Addr} {xs : List V} {ts : List Th} (h : Ev ta σ H (.ref b)) (hb : H b = some (.lst xs)) (rs : Reps K H0 xs ts) (ad : Adm (.lst ts)) : EvR (tRevL K (tCall (SpRows K) [] E (tCons ta (tCons (tTup tNil) (tCons (tCall (SpTop K) [] E' tNil) tNil))))) σ H
    (fun v H' => ∃ W wvs, v = .ref W ∧ H W = none ∧ H' W = some (.lst wvs) ∧ RowsAre K H0 H' wvs (rowsAt [] 1 "top" false ts).reverse) := by
  intro H1 e Q k
  have hxl : xs.length ≤ 1000 := by rw [rs.length]; exact ad.lst.1
  refine h H1 e _ fun H2 e2 => eu_tup ea_nil (by decide) H2 (e.trans e2) _ fun at_ H3 _ e3 h3 => ?_
  refine (er_top (E := E') (σ := σ) (H := H3)) H3 (Ex.refl H3) _ fun v H5 e5 ⟨pl, hv, hpl⟩ => ?_
  subst hv
  have e25 := (e2.trans e3).trans e5
  refine ⟨b, at_, pl, xs, [], rfl, e25 _ _ (e _ _ hb), hxl, st_of (e5 _ _ h3), by simp, fun p H6 rows hp e6 h6 hl hr => ?_⟩
  have hrows := rows_of (b := b) (at_ := at_) (p := []) rs ad hl ⟨rfl, by decide⟩ (hpl.mono e6) hr
  refine ⟨p, rows, rfl, sq_of h6, fun W hW => ?_⟩
  have eW := Ex.new hW (o := .lst rows.reverse)
  exact k (.ref W) _ ((e25.trans e6).trans eW) ⟨W, rows.reverse, rfl, fresh_back ((e.trans e25).trans e6) hW, upd_same, rows_mono eW (paired_rev hrows)⟩
theorem f_surveyG (z : Cz w K mg) : Cl P w K mg base 44 "survey" (SpSurvG K) := by
  have c__rows := f_rows (P := P) (base := base) z
  have c_top_place := f_top_place (P := P) (base := base) z
  have c_inner_place := f_inner_place (P := P) (base := base) z
  have c_is_statement := f_is_statement (P := P) (base := base) z
  have c_fits := f_fits (P := P) (base := base) z 40
  have c_blocks_of := f_blocks_ofG (P := P) (base := base) z
  refine cal_of (k := 43) z.fn_survey z.glo_survey K0.c_survey (fun vs H Q E h => ?_) (fun cdv A outer s H vs Q _ hr h => ?_)
  · obtain ⟨b, xs, ts, Hr, rfl, _⟩ := h
    rfl
  · obtain ⟨b, xs, ts, Hr, rfl, hb, er, rs, ad, k⟩ := h
    refine ⟨_, (pss_cons (ps_set (i := 1) K0.c_survey.nd rfl (.inl rfl) (pe_lst pa_nil))
      (pss_cons (ps_set (i := 2) K0.c_survey.nd rfl (.inl rfl) (pe_revL (pe_c c__rows hr (by first | decide | omega) (by rfl) (pa_cons (pv 0) (pa_cons (pe_tup pa_nil) (pa_cons (pe_c0 c_top_place hr (by first | decide | omega) (by rfl)) pa_nil))))))
      (pss_cons (ps_while PassesOwn.never (pt_cmpR op_gt (pe_callB call_len_seq (by rfl) z.free_len PySem.boot_len (pa_cons (pv 2) pa_nil)) pe_int (nomark _)) (pss_cons (ps_asg (pe_bm0 PySem.F.plainAttrs_list PySem.F.slot_list_pop PySem.F.type_list_pop mt_pop (pv 2)) (show PG _ _ (gTup K 3 (gCons (gName 3) (gCons (gName 4) (gCons (gName 5) gNil)))) from by refine pg_tup rfl (pgs_cons ?g0 (pgs_cons ?g1 (pgs_cons ?g2 pgs_nil))); (case g0 => exact (pg_name (i := 3) K0.c_survey.nd rfl (.inl rfl))); (case g1 => exact (pg_name (i := 4) K0.c_survey.nd rfl (.inl rfl))); (case g2 => exact (pg_name (i := 5) K0.c_survey.nd rfl (.inl rfl)))))
      (pss_cons (ps_if (PW.pt (pw_or (pt_cmpR op_eq (pe_callB call_len_seq (by rfl) z.free_len PySem.boot_len (pa_cons (pv 1) pa_nil)) (pe_gi z.int_MOST_STATEMENTS) (nomark _)) (pw_or1 (pt_cmpR op_eq (pe_ix (show IxR _ (rIxT K) from ix_tup) (pv 3) (pe_un un_neg pe_int) (fun _ _ => rfl)) (pe_gi z.int_MOST_IN_BLOCK) (nomark _))))) (pss_one (ps_ret (pe_tup (pa_cons (pv 1) (pa_cons (pv 3) pa_nil))))) pss_nil)
      (pss_cons (ps_if (PW.pt (pw_or (pt_not (pt_val (pe_c c_is_statement hr (by first | decide | omega) (by rfl) (pa_cons (pv 4) pa_nil)))) (pw_or1 (pt_not (pt_val (pe_c c_fits hr (by first | decide | omega) (by rfl) (pa_cons (pv 4) (pa_cons (pv 5) pa_nil)))))))) (pss_one (ps_ret (pe_tup (pa_cons (pv 1) (pa_cons (pv 3) pa_nil))))) pss_nil)
      (pss_cons (ps_expr (pe_bm PySem.F.plainAttrs_list PySem.F.slot_list_append PySem.F.type_list_append mt_append (pv 1) (pa_cons (pe_tup (pa_cons (pv 3) (pa_cons (pv 4) (pa_cons (pv 5) pa_nil)))) pa_nil)))
      (pss_cons (ps_set (i := 6) K0.c_survey.nd rfl (.inl rfl) (pe_lst pa_nil))
      (pss_cons (ps_set (i := 7) K0.c_survey.nd rfl (.inl rfl) (pe_c c_inner_place hr (by first | decide | omega) (by rfl) (pa_cons (pv 5) (pa_cons (pe_ix (show IxR _ (rIxT K) from ix_tup) (pv 4) pe_int (fun _ _ => rfl)) pa_nil))))
      (pss_cons (ps_for PassesOwn.never rfl (pi_enum (by rfl) z.free_enumerate (pa_cons (pe_c c_blocks_of hr (by first | decide | omega) (by rfl) (pa_cons (pv 4) pa_nil)) pa_nil)) (show PG _ _ (gTup K 2 (gCons (gName 8) (gCons (gName 9) gNil))) from by refine pg_tup rfl (pgs_cons ?g0 (pgs_cons ?g1 pgs_nil)); (case g0 => exact (pg_name (i := 8) K0.c_survey.nd rfl (.inl rfl))); (case g1 => exact (pg_name (i := 9) K0.c_survey.nd rfl (.inl rfl)))) (pss_one (ps_expr (pe_bm PySem.F.plainAttrs_list PySem.F.slot_list_extend PySem.F.type_list_extend mt_extend (pv 6) (pa_cons (pe_c c__rows hr (by first | decide | omega) (by rfl) (pa_cons (pv 9) (pa_cons (pe_op (show OpR _ _ (rCatA K) from op_catA) (pv 3) (pe_tup (pa_cons (pv 8) pa_nil))) (pa_cons (pv 7) pa_nil)))) pa_nil)))))
      (pss_one (ps_expr (pe_bm PySem.F.plainAttrs_list PySem.F.slot_list_extend PySem.F.type_list_extend mt_extend (pv 2) (pa_cons (pe_revL (pv 6)) pa_nil))))))))))))
      (pss_one (ps_ret (pe_tup (pa_cons (pv 1) (pa_cons pe_non pa_nil)))))))), ?_⟩
    refine q_asgL (el_lst ea_nil (by decide)) fun F H1 hF e1 h1 => ?_
    refine q_rasg (er_rowsTop (H0 := Hr) (ev_var rfl) (e1 _ _ hb) rs ad) fun v H2 e2 ⟨W, wvs0, hv, hW, h2W, hrw⟩ => ?_
    subst hv
    have nFW : F ≠ W := fun zz => by rw [← zz, h1] at hW; cases hW
    have hW0 := fresh_back e1 hW
    refine q_while (fun m σ' H' => ∃ fo ws, m + fo.length = 82 ∧ fo.length ≤ 80 ∧ ws.length ≤ 13 + 520 * fo.length ∧ surveyM m fo ws = surveyT ts ∧ (∃ s3 s4 s5 s6 s7 s8 s9, σ' = [some (.ref b), some (.ref F), some (.ref W), s3, s4, s5, s6, s7, s8, s9]) ∧ Sg K H Hr F W fo ws H') 82
      ⟨[], rowsAt [] 1 "top" false ts, rfl, by simp, by rw [rowsAt_len, List.length_take]; simp; omega, rfl, ⟨_, _, _, _, _, _, _, rfl⟩, e1.trans e2, ⟨[], e2 _ _ h1, .nil⟩, ⟨wvs0, h2W, hrw⟩⟩ (fun m σ' H' hw => ?_)
    obtain ⟨fo, ws, hm, hfo, hwl, hres, ⟨s3, s4, s5, s6, s7, s8, s9, rfl⟩, S⟩ := hw
    obtain ⟨wvs, w1, w2⟩ := S.w
    have hwlen := Paired.length w2
    rw [List.length_reverse] at hwlen
    cases ws with
    | nil =>
      have h0 : wvs.length = 0 := hwlen
      refine ⟨false, et_is (et_test (ev_op (ev_lenL (ev_var rfl) (sq_of w1)) ev_c rv_I0)) (by rw [h0]; rfl), (fun hh => nomatch hh), fun _ H3 e3 => ?_⟩
      obtain ⟨fvs, f1, f2⟩ := (S.mono e3).f
      refine s_retU (eu_tup (ea_cons (ev_var rfl) (ea_cons ev_c ea_nil)) (by simp)) fun pp H4 hp4 e4 h4 => ?_
      have hsv : surveyT ts = (fo, none) := by
        rw [← hres]
        obtain ⟨n, rfl⟩ : ∃ n, m = n + 1 := ⟨m - 1, by omega⟩
        rfl
      refine k pp F .non fvs H4 (fresh_back (S.mono e3).ex hp4) hF ((S.mono e3).ex.trans e4) h4 (e4 _ _ f1) ?_ ?_
      · rw [hsv]
        exact rows_mono e4 f2
      · rw [hsv]
    | cons row ws =>
      refine ⟨true, et_is (et_test (ev_op (ev_lenL (ev_var rfl) (sq_of w1)) ev_c rv_I0)) (decide_eq_true (by rw [hwlen, List.length_cons]; omega)), fun _ H3 e3 => ⟨_, fun σ2 H9 h9 => h9, ?_⟩, fun hh => nomatch hh⟩
      have S3 := S.mono e3
      rw [List.reverse_cons] at w2
      obtain ⟨a, v, rfl, hal, hrow⟩ := paired_snoc w2
      have w3 := e3 _ _ w1
      refine s_pop (D := { nx := _, rt := _, ct := _, bk := _ }) (ev_var rfl) w3 (y := v) (by simp) fun H4 e4 => ?_
      rw [List.dropLast_concat]
      have S5 : Sg K H Hr F W fo ws (upd H4 W (.lst a)) := (S3.mono e4).updW hW0 nFW (rows_mono (e3.trans e4) hal)
      have row5 : RowIs K Hr (upd H4 W (.lst a)) v row := (hrow.mono (e3.trans e4)).exo (e4 _ _ w3) (ExO.of (Ex.refl _)).upd
      generalize upd H4 W (.lst a) = H5 at S5 row5
      obtain ⟨x, pa, ⟨p, q, hv, hp5, hq5⟩, rx, ax, hpl5, hlen, q0, k0, hpk⟩ := row5
      subst hv
      refine g_three (st_of hp5) ?_
      obtain ⟨fvs, f5, fr5⟩ := S5.f
      have hfl := Paired.length fr5
      have hlast : row.last = k0 := by
        unfold Row.last
        rw [hpk]
        simp
      have hidx : atI (pV row.p) (-1) = some (.int ((k0 : Nat) : Int)) := by
        rw [hpk]
        unfold pV
        rw [List.map_append]
        exact atI_last _ _
      obtain ⟨n, rfl⟩ : ∃ n, m = n + 1 := ⟨m - 1, by omega⟩
      have bad : ∀ H7, Ex H5 H7 → surveyT ts = (fo, some row.p) → tRet (tTup (tCons (tVar 1) (tCons (tVar 3) tNil))) { nx := fun _ H' => Q .non H', rt := Q } [some (.ref b), some (.ref F), some (.ref W), some (.ref q), some x, some (.ref pa), s6, s7, s8, s9] H7 := fun H7 e7 hsv =>
        s_retU (eu_tup (ea_cons (ev_var rfl) (ea_cons (ev_var rfl) ea_nil)) (by simp)) fun pp H8 hp8 e8 h8 => by
          have e78 := e7.trans e8
          refine k pp F (.ref q) fvs H8 (fresh_back (S5.mono e7).ex hp8) hF (S5.mono e78).ex h8 (e78 _ _ f5) ?_ ?_
          · rw [hsv]
            exact rows_mono e78 fr5
          · rw [hsv]
            exact ⟨q, rfl, e78 _ _ hq5⟩
      have hrun : surveyM (n + 1) fo (row :: ws) = if (decide (fo.length = 80) || decide (row.last = 12)) = true then (fo, some row.p) else if okRow row = true then surveyM n (fo ++ [row]) (innerRows row ++ ws) else (fo, some row.p) := rfl
      rw [hrun] at hres
      refine q_when (b := decide (fo.length = 80) || decide (row.last = 12)) (et_is (et_or (et_test (ev_op (ev_lenL (ev_var rfl) (sq_of f5)) ev_c rv_iEq)) fun _ => et_test (ev_op (ev_op (ev_var rfl) (ev_un ev_c ru_neg) (rv_ixT (v := .int ((k0 : Nat) : Int)) (st_of hq5) hidx)) ev_c rv_iEq)) ?_) (fun hh H6 e6 => bad H6 e6 (by rw [← hres, if_pos hh])) (fun hh H6 e6 => ?_)
      · rw [hfl, hlast]
        congr 1
        · exact decide_eq_decide.mpr (by omega)
        · exact decide_eq_decide.mpr (by omega)
      rw [if_neg (by rw [hh]; decide)] at hres
      have S6 := S5.mono e6
      have hpl6 := hpl5.mono e6
      have r6 : Rep K H6 x row.t := rx.mono (er.trans S6.ex)
      refine q_when (b := !okRow row) (et_is (et_or (et_not (et_B (ev_p1 (ev_var rfl) r6 ax))) (b := !fitsB row.t row.d row.r row.l) fun hh2 => ?_) ?_) (fun hh2 H7 e7 => bad H7 (e6.trans e7) (by rw [← hres, if_neg (by rw [Bool.not_eq_true'] at hh2; rw [hh2]; decide)])) (fun hh2 H7 e7 => ?_)
      · have hs : stmtB row.t = true := by simpa using hh2
        obtain ⟨q1, q2, _⟩ := stmt_adm ax hs
        exact et_not (et_B (ev_fits (ev_var rfl) (ev_var rfl) r6 ax hs q1 q2 hpl6))
      · unfold okRow
        rw [Bool.not_and]
      have hok : okRow row = true := by simpa using hh2
      have hs : stmtB row.t = true := (Bool.and_eq_true_iff.mp hok).1
      rw [if_pos hok] at hres
      obtain ⟨_, _, hbl, hbe⟩ := stmt_adm ax hs
      have S7 := S6.mono e7
      have f7 := (e6.trans e7) _ _ f5
      -- found.append
      refine q_appU f7 (ev_var rfl) (eu_tup (ea_cons (ev_var rfl) (ea_cons (ev_var rfl) (ea_cons (ev_var rfl) ea_nil))) (by simp)) (by omega) fun rw_ H8 hrw8 e8 h8 => ?_
      have row8 : RowIs K Hr H8 (.ref rw_) row := ⟨x, pa, ⟨rw_, q, rfl, h8, ((e6.trans e7).trans e8) _ _ hq5⟩, rx, ax, hpl5.mono ((e6.trans e7).trans e8), hlen, q0, k0, hpk⟩
      have S9 : Sg K H Hr F W (fo ++ [row]) ws (upd H8 F (.lst (fvs ++ [.ref rw_]))) := (S7.mono e8).updF hF nFW (Paired.snoc (rows_mono ((e6.trans e7).trans e8) fr5) row8)
      have eo9 : ExO F H8 (upd H8 F (.lst (fvs ++ [.ref rw_]))) := (ExO.of (Ex.refl _)).upd
      have q9 : (upd H8 F (.lst (fvs ++ [.ref rw_]))) q = some (.tup (pV row.p)) := by
        rw [upd_ne fun zz => by have := ((e6.trans e7).trans e8) _ _ hq5; rw [zz, e8 _ _ f7] at this; cases this]
        exact ((e6.trans e7).trans e8) _ _ hq5
      have pl9 : PlaceAt K (upd H8 F (.lst (fvs ++ [.ref rw_]))) pa row.d row.r row.l := by
        obtain ⟨dx, h9⟩ := hpl5.mono ((e6.trans e7).trans e8)
        exact ⟨dx, by rw [upd_ne fun zz => by rw [zz, e8 _ _ f7] at h9; cases h9]; exact h9⟩
      generalize upd H8 F (.lst (fvs ++ [.ref rw_])) = H9 at S9 q9 pl9
      refine q_asgL (el_lst ea_nil (by decide)) fun I H10 hI e10 h10 => ?_
      have S10 := S9.mono e10
      have nIF : I ≠ F := fun zz => by
        obtain ⟨f9, h9, _⟩ := S9.f
        rw [zz, h9] at hI
        cases hI
      have nIW : I ≠ W := fun zz => by
        obtain ⟨w9, h9, _⟩ := S9.w
        rw [zz, h9] at hI
        cases hI
      have hI0 : H I = none := fresh_back S9.ex hI
      obtain ⟨w0, ll, ts0, hts, hw0, hll, hlen0, hpp⟩ := stmt_parts hs
      have item0 : Rep K H10 x (.tup (.str w0 :: ts0)) := hts ▸ (rx.mono (er.trans S10.ex))
      obtain ⟨v0, rv0, ev0⟩ := ev_item (i := 0) (ta := tVar 4) (σ := [some (.ref b), some (.ref F), some (.ref W), some (.ref q), some x, some (.ref pa), some (.ref I), s7, s8, s9]) (ev_var rfl) item0 (show (Th.str w0 :: ts0)[0]? = some (.str w0) from rfl)
      cases rv0
      refine q_rasg (er_inner (ev_var rfl) ev0 (pl9.mono e10)) fun v H11 e11 ⟨ar, hv, har⟩ => ?_
      subst hv
      have S11 := S10.mono e11
      have q11 := (e10.trans e11) _ _ q9
      refine q_forE (er_ofG (H0 := Hr) (ev_var rfl) (er.trans S11.ex) rx ⟨ax, hs⟩) fun v H12 e12 ⟨pb, bs, hv, hpb0, hpb, hbs⟩ => ?_
      subst hv
      have hbsl := hbs.length
      have nIb : pb ≠ I := fun zz => by
        rw [zz, e11 _ _ h10] at hpb0
        cases hpb0
      refine ⟨pb, bs, rfl, sq_of hpb, fun i σ' H' => (∃ a1 a2, σ' = [some (.ref b), some (.ref F), some (.ref W), some (.ref q), some x, some (.ref pa), some (.ref I), some (.ref ar), a1, a2]) ∧ Sg K H Hr F W (fo ++ [row]) ws H' ∧ ExO I H12 H' ∧ ∃ ivs, H' I = some (.lst ivs) ∧ RowsAre K Hr H' ivs (((ofT blOf1 row.t).zipIdx.take i).flatMap (inner1 row)) ∧ ivs.length ≤ 13 * i, ⟨⟨s8, s9, rfl⟩, S11.mono e12, ExO.of (Ex.refl _), [], (e11.trans e12) _ _ h10, by rw [List.take_zero]; exact .nil, by simp⟩, ?_, ?_, ?_⟩
      · rintro i σ' H' _ ⟨_, _, eo, _⟩
        exact sq_of (eo _ _ nIb hpb)
      · rintro i v2 σ' H13 T g2 ⟨⟨a1, a2, rfl⟩, S13, eo, ivs, hiv, hrows, hil⟩ hT
        refine g_pair upd_same ?_
        have eT := Ex.new hT (o := .tup [.int ((i : Nat) : Int), v2])
        obtain ⟨u, hu, ru⟩ := hbs.get g2
        obtain ⟨us, rfl, au⟩ := hbe u (List.mem_of_getElem? hu)
        have hi40 : i < 40 := by
          have := (List.getElem?_eq_some_iff.mp hu).1
          omega
        have S14 := S13.mono eT
        have hiv14 := eT _ _ hiv
        have eo14 : ExO I H12 (upd H13 T (.tup [.int ((i : Nat) : Int), v2])) := eo.trans (ExO.of eT)
        have hI12 : H12 I = some (.lst []) := (e11.trans e12) _ _ h10
        have ar14 : PlaceAt K (upd H13 T (.tup [.int ((i : Nat) : Int), v2])) ar (row.d + 1) (inR w0 row.r) (inL w0 row.l) := by
          obtain ⟨dx, h9⟩ := har.mono e12
          exact ⟨dx, eo14 _ _ (fun zz => by rw [zz, hI12] at h9; cases h9) h9⟩
        have q14 : (upd H13 T (.tup [.int ((i : Nat) : Int), v2])) q = some (.tup (pV row.p)) := by
          have h9 := (e11.trans e12) _ _ (e10 _ _ q9)
          exact eo14 _ _ (fun zz => by rw [zz, hI12] at h9; cases h9) h9
        generalize upd H13 T (.tup [.int ((i : Nat) : Int), v2]) = H14 at S14 hiv14 eo14 ar14 q14 eT
        cases ru with
        | lst hL rl =>
          have hpp2 : (pV row.p).length ≤ 1000 := by
            unfold pV
            rw [List.length_map]
            have := hlen.1
            have := hlen.2
            omega
          refine s_extR hiv14 (ev_var rfl) (er_rows (H0 := Hr) (p := row.p ++ [i]) (ev_var rfl) (S14.ex _ _ (er _ _ hL)) rl au ((er_cat (ev_var rfl) (st_of q14) hpp2 (ev_var rfl)).imp fun v H9 _ ⟨r9, hv9, h9⟩ => ⟨r9, hv9, st_of (by rw [h9]; unfold pV; rw [List.map_append]; rfl)⟩) ?_ (ev_var rfl) ar14) fun v H15 e15 ⟨q2, vs, hv, hq0, h15, hr15⟩ => ⟨q2, vs, hv, h15, ?_, ?_⟩
          · have hfit : fitsB row.t row.d row.r row.l = true := (Bool.and_eq_true_iff.mp hok).2
            have h8 : ¬ row.d = 8 := fun q8 => by
              unfold fitsB at hfit
              have hbp : 0 < (ofT blOf1 row.t).length := by
                have := (List.getElem?_eq_some_iff.mp hu).1
                omega
              rw [decide_eq_true q8, decide_eq_true hbp, Bool.true_and, Bool.not_true, Bool.false_and] at hfit
              cases hfit
            have := hlen.1
            have := hlen.2
            refine ⟨?_, by omega⟩
            rw [List.length_append, List.length_singleton]
            omega
          · have hvl := Paired.length hr15
            rw [rowsAt_len, List.length_take] at hvl
            omega
          · have hvl := Paired.length hr15
            rw [rowsAt_len, List.length_take] at hvl
            have hz : (ofT blOf1 row.t).zipIdx[i]? = some (.lst us, i) := by
              rw [List.getElem?_zipIdx, hu]
              simp
            have hin : inner1 row (.lst us, i) = rowsAt (row.p ++ [i]) (row.d + 1) (inR w0 row.r) (inL w0 row.l) us := by
              unfold inner1
              rw [hw0]
              rfl
            have eI : ExO I H15 (upd H15 I (.lst (ivs ++ vs))) := (ExO.of (Ex.refl _)).upd
            refine ⟨⟨_, _, rfl⟩, (S14.mono e15).updI hI0 nIF nIW (e15 _ _ hiv14), (eo14.trans (ExO.of e15)).trans eI, ivs ++ vs, upd_same, ?_, by rw [List.length_append]; omega⟩
            rw [flat_take _ _ hz, hin]
            exact rows_exo (e15 _ _ hiv14) eI (paired_app (rows_mono (eT.trans e15) hrows) hr15)
      · rintro σ' H13 ⟨⟨a1, a2, rfl⟩, S13, eo, ivs, hiv, hrows, hil⟩
        have hall : (ofT blOf1 row.t).zipIdx.take bs.length = (ofT blOf1 row.t).zipIdx := by
          rw [hbsl, ← List.length_zipIdx (l := ofT blOf1 row.t) (i := 0), List.take_length]
        rw [hall] at hrows
        obtain ⟨wv2, w13, wr13⟩ := S13.w
        have hwl13 := Paired.length wr13
        rw [List.length_reverse] at hwl13
        have hil2 : ivs.length ≤ 520 := by omega
        refine s_extR w13 (ev_var rfl) (er_rev (ev_var rfl) (sq_of hiv)) fun v H14 e14 ⟨pp, hv, hpp14⟩ => ⟨pp, ivs.reverse, hv, hpp14, ?_, ?_⟩
        · rw [List.length_reverse]
          simp only [List.length_cons] at hwl
          omega
        · refine ⟨n, by omega, fo ++ [row], innerRows row ++ ws, by rw [List.length_append]; simp; omega, ?_, ?_, hres, ⟨_, _, _, _, _, _, _, rfl⟩, ?_⟩
          · rw [List.length_append, List.length_singleton]
            have h80 : ¬ fo.length = 80 := by
              have := (Bool.or_eq_false_iff.mp hh).1
              exact of_decide_eq_false this
            omega
          · have := innerRows_len (w := row) hbl
            rw [List.length_append, List.length_append, List.length_singleton]
            simp only [List.length_cons] at hwl
            omega
          · refine (S13.mono e14).updW hW0 nFW ?_
            rw [List.reverse_append]
            exact paired_app (rows_mono e14 wr13) (paired_rev (rows_mono e14 hrows))
end
end K0
/-! ## K2C -/
set_option Elab.async false
set_option linter.all false
set_option maxRecDepth 100000
set_option maxHeartbeats 8000000
namespace K0
open PySem PySem.Spec PyProof.Rows L2 Evl RZ KB
theorem paired_get {α β : Type} {R : α → β → Prop} {a : List α} {b : List β} (h : Paired R a b) : ∀ {i : Nat} {x : α}, a[i]? = some x → ∃ y, b[i]? = some y ∧ R x y := by
  induction h with
  | nil => intro i x h; simp at h
  | @cons x y as bs hx _ ih =>
    intro i u h
    cases i with
    | zero =>
      have e := Option.some.inj (by simpa using h : some x = some u)
      subst e
      exact ⟨y, rfl, hx⟩
    | succ i =>
      obtain ⟨v, h1, h2⟩ := ih (by simpa using h)
      exact ⟨v, by simpa using h1, h2⟩
theorem surveyM_ok : ∀ (n : Nat) (fo ws : List Row), (∀ w ∈ fo, okRow w = true) → ∀ w ∈ (surveyM n fo ws).1, okRow w = true
  | 0, fo, ws, h => h
  | n + 1, fo, [], h => h
  | n + 1, fo, w :: ws, h => by
    show ∀ u ∈ (if (decide (fo.length = 80) || decide (w.last = 12)) = true then (fo, some w.p) else if okRow w = true then surveyM n (fo ++ [w]) (innerRows w ++ ws) else (fo, some w.p)).1, okRow u = true
    split
    · exact h
    · split
      · rename_i hw
        refine surveyM_ok n _ _ fun u hu => ?_
        rcases List.mem_append.mp hu with hu | hu
        · exact h u hu
        · rw [List.mem_singleton.mp hu]
          exact hw
      · exact h
theorem surveyM_len : ∀ (n : Nat) (fo ws : List Row), (surveyM n fo ws).1.length ≤ fo.length + n
  | 0, fo, ws => Nat.le_refl _
  | n + 1, fo, [] => Nat.le_add_right _ _
  | n + 1, fo, w :: ws => by
    show (if (decide (fo.length = 80) || decide (w.last = 12)) = true then (fo, some w.p) else if okRow w = true then surveyM n (fo ++ [w]) (innerRows w ++ ws) else (fo, some w.p)).1.length ≤ fo.length + (n + 1)
    split
    · exact Nat.le_add_right _ _
    · split
      · have := surveyM_len n (fo ++ [w]) (innerRows w ++ ws)
        rw [List.length_append, List.length_singleton] at this
        omega
      · exact Nat.le_add_right _ _
theorem survey_ok (ts : List Th) : ∀ w ∈ (surveyT ts).1, okRow w = true := surveyM_ok 82 [] _ fun _ h => nomatch h
theorem survey_len (ts : List Th) : (surveyT ts).1.length ≤ 82 := by
  have := surveyM_len 82 [] (rowsAt [] 1 "top" false ts)
  rw [List.length_nil, Nat.zero_add] at this
  exact this
section
variable {P : Program} {w : World} {K : PySem.W.Frag} {mg : Str → Option Value} {base : Heap} {σ : L2.St} {H H' H0 : Hp} {ta tb tc td te tl tv tk to : TE} {x y kv : V} {X0 : XK} {tu tz : TS} {D : Ends} {g : TG} {R : V → Hp → Prop}
theorem pV_key (p : List Nat) (j : Nat) : some (HO.tup (pV p ++ [V.int ((j : Nat) : Int)])) = some (HO.tup (List.map kV ((p.map fun n => (Sum.inl ((n : Nat) : Int) : Key)) ++ [.inl ((j : Nat) : Int)]))) := by
  rw [List.map_append, List.map_map]
  rfl

/-! the layout, told whole -/
def keyN (p : List Nat) : List Key := p.map fun n => (Sum.inl ((n : Nat) : Int) : Key)
theorem keyN_kV (p : List Nat) : (keyN p).map kV = pV p := by
  unfold keyN pV
  rw [List.map_map]
  rfl
theorem keyN_inj : ∀ {p q : List Nat}, keyN p = keyN q → p = q
  | [], [], _ => rfl
  | [], _ :: _, h => by cases h
  | _ :: _, [], h => by cases h
  | a :: p, b :: q, h => by
    have h1 : (Sum.inl ((a : Nat) : Int) : Key) :: keyN p = Sum.inl ((b : Nat) : Int) :: keyN q := h
    injection h1 with h2 h3
    injection h2 with h4
    rw [keyN_inj h3]
    congr 1
    omega
theorem keyN_snoc (p : List Nat) (j : Nat) : keyN (p ++ [j]) = (p.map fun n => (Sum.inl ((n : Nat) : Int) : Key)) ++ [.inl ((j : Nat) : Int)] := by
  unfold keyN
  rw [List.map_append]
  rfl
def PathV (H : Hp) (v : V) (p : List Nat) : Prop := ∃ q, v = .ref q ∧ H q = some (.tup (pV p))
theorem PathV.mono {p : List Nat} {v : V} (e : Ex H H') (h : PathV H v p) : PathV H' v p := by
  obtain ⟨q, hv, h1⟩ := h
  exact ⟨q, hv, e _ _ h1⟩
def EntV (K : PySem.W.Frag) (H0 H : Hp) (kv : List Key × V) (e : List Nat × Th) : Prop := kv.1 = keyN e.1 ∧ RepN K H0 H kv.2 e.2
theorem val_none {W : List Key × V → (List Nat × Th) → Prop} (hW : ∀ kv e, W kv e → kv.1 = keyN e.1) {kvs : List (List Key × V)} {es : List (List Nat × Th)} (h : Paired W kvs es) {p : List Nat} (hp : p ∉ es.map (·.1)) : valV kvs (keyN p) = none := by
  induction h with
  | nil => exact valV_nil
  | @cons kv e kvs es hx _ ih =>
    rw [List.map_cons, List.mem_cons, not_or] at hp
    rw [valV_neg (fun q => hp.1 (keyN_inj (q.symm.trans (hW _ _ hx))))]
    exact ih hp.2
theorem val_some {W : List Key × V → (List Nat × Th) → Prop} (hW : ∀ kv e, W kv e → kv.1 = keyN e.1) {kvs : List (List Key × V)} {es : List (List Nat × Th)} (h : Paired W kvs es) (nd : (es.map (·.1)).Nodup) {p : List Nat} {t : Th} (hp : (p, t) ∈ es) : ∃ v, valV kvs (keyN p) = some v ∧ W (keyN p, v) (p, t) := by
  induction h with
  | nil => cases hp
  | @cons kv e kvs es hx _ ih =>
    rw [List.map_cons, List.nodup_cons] at nd
    rcases List.mem_cons.mp hp with rfl | hp
    · have h1 := hW _ _ hx
      refine ⟨kv.2, valV_pos h1, ?_⟩
      rw [show (keyN p, kv.2) = kv by rw [← show kv.1 = keyN p from h1]]
      exact hx
    · rw [valV_neg (fun q => nd.1 (by
        have : p = e.1 := keyN_inj (q.symm.trans (hW _ _ hx))
        rw [← this]
        exact List.mem_map.mpr ⟨_, hp, rfl⟩))]
      exact ih nd.2 hp
def nthT (i : Nat) : Th → Th
  | .tup ts => (ts[i]?).getD .non
  | _ => .non
/-- parameters and block of each code that a statement brings -/
def codC (t : Th) : List (Th × Th) := if fw t = "def" then [(nthT 2 t, nthT 3 t)] else if fw t = "class" then (elems (nthT 3 t)).map fun m => (nthT 1 m, nthT 2 m) else []
def entC (w : Row) : List (List Nat × Th × Th) := (codC w.t).zipIdx.map fun x => (w.p ++ [x.2], x.1.1, x.1.2)
def allC (rows : List Row) : List (List Nat × Th × Th) := rows.flatMap entC
def parE (e : List Nat × Th × Th) : List Nat × Th := (e.1, e.2.1)
def bodE (e : List Nat × Th × Th) : List Nat × Th := (e.1, e.2.2)
theorem entC_code {w : Row} {e : List Nat × Th × Th} (h : e ∈ entC w) : ∃ k, e.1 = w.p ++ [k] := by
  obtain ⟨x, _, rfl⟩ := List.mem_map.mp h
  exact ⟨_, rfl⟩
theorem entC_get {w : Row} {j : Nat} {a b : Th} (h : (codC w.t)[j]? = some (a, b)) : (entC w)[j]? = some (w.p ++ [j], a, b) := by
  unfold entC
  rw [List.getElem?_map, List.getElem?_zipIdx, h]
  simp
theorem allC_take {rows : List Row} {i : Nat} {w : Row} (h : rows[i]? = some w) : allC (rows.take (i + 1)) = allC (rows.take i) ++ entC w := by
  unfold allC
  rw [take_more h, List.flatMap_append]
  simp
theorem code_new {rows : List Row} (nd : (rows.map (·.p)).Nodup) {i k : Nat} {w : Row} (h : rows[i]? = some w) : w.p ++ [k] ∉ (allC (rows.take i)).map (·.1) := fun hm => by
  obtain ⟨e, he, e1⟩ := List.mem_map.mp hm
  obtain ⟨w', hw', he'⟩ := List.mem_flatMap.mp he
  obtain ⟨k', e2⟩ := entC_code he'
  have e3 : w'.p = w.p := by
    have := e2.symm.trans e1
    exact (List.append_inj' this rfl).1
  obtain ⟨j, hj⟩ := List.getElem?_of_mem hw'
  have hji : j < i := by
    have := (List.getElem?_eq_some_iff.mp hj).1
    rw [List.length_take] at this
    omega
  rw [List.getElem?_take, if_pos hji] at hj
  have hi := (List.getElem?_eq_some_iff.mp h).1
  have hjl := (List.getElem?_eq_some_iff.mp hj).1
  have := List.pairwise_iff_getElem.mp nd j i (by rw [List.length_map]; omega) (by rw [List.length_map]; omega) hji
  rw [List.getElem_map, List.getElem_map, (List.getElem?_eq_some_iff.mp hj).2, (List.getElem?_eq_some_iff.mp h).2] at this
  exact this e3
theorem code_new2 {w : Row} {j : Nat} : w.p ++ [j] ∉ ((entC w).take j).map (·.1) := fun hm => by
  obtain ⟨e, he, e1⟩ := List.mem_map.mp hm
  obtain ⟨i, hi⟩ := List.getElem?_of_mem he
  have hij : i < j := by
    have := (List.getElem?_eq_some_iff.mp hi).1
    rw [List.length_take] at this
    omega
  rw [List.getElem?_take, if_pos hij] at hi
  unfold entC at hi
  rw [List.getElem?_map, List.getElem?_zipIdx] at hi
  cases hc : (codC w.t)[i]? with
  | none =>
    rw [hc] at hi
    cases hi
  | some x =>
    rw [hc] at hi
    have hi := Option.some.inj hi
    rw [← hi] at e1
    have h2 := (List.append_inj' e1 rfl).2
    simp at h2
    omega
/-- the layout's own objects -/
structure LyO (K : PySem.W.Frag) (a R Pm B : Addr) (rs : List V) (ps bs : List (List Key × V)) (H : Hp) : Prop where
  ob : ∃ dx fs, H a = some (.ins (layC K) dx fs) ∧ fs.lookup ("routines" : Str) = some (.ref R) ∧ fs.lookup ("parameters" : Str) = some (.ref Pm) ∧ fs.lookup ("bodies" : Str) = some (.ref B) ∧ fs.lookup ("_keep" : Str) = none
  ne : Pm ≠ B
  r : H R = some (.lst rs)
  p : H Pm = some (.dT ps)
  b : H B = some (.dT bs)
theorem LyO.mono {a R Pm B : Addr} {rs : List V} {ps bs : List (List Key × V)} (l : LyO K a R Pm B rs ps bs H) (e : Ex H H') : LyO K a R Pm B rs ps bs H' := by
  obtain ⟨⟨dx, fs, h, q⟩, ne, hr, hp, hb⟩ := l
  exact ⟨⟨dx, fs, e _ _ h, q⟩, ne, e _ _ hr, e _ _ hp, e _ _ hb⟩
def SpKeepF (K : PySem.W.Frag) : Sp := fun vs H Q _ => ∃ a c p b k R Pm B rs ps bs, vs = [.ref a, .ref c, p, b] ∧ LyO K a R Pm B rs ps bs H ∧ (rs.length ≤ 1000 ∧ ps.length ≤ 1000 ∧ bs.length ≤ 1000) ∧ H c = some (.tup (List.map kV k)) ∧ valV ps k = none ∧ valV bs k = none ∧ ∀ H', Lx a R Pm B H H' → LyO K a R Pm B (rs ++ [.ref c]) (ps ++ [(k, p)]) (bs ++ [(k, b)]) H' → Q .non H'
theorem f_keepF (z : Cz w K mg) : Mt P w K mg base 1 (layC K) "_keep" (SpKeepF K) := by
  refine mt_of (k := 0) z.meth_Layout__keep z.cls_Layout z.fn_Layout_keep K0.c_Layout_keep (fun vs H Q E h => ?_) (fun cdv A outer s H vs Q _ hr h => ?_)
  · obtain ⟨a, c, p, b, k, R, Pm, B, rs, ps, bs, rfl, _⟩ := h
    rfl
  · obtain ⟨a, c, p, b, k, R, Pm, B, rs, ps, bs, rfl, ⟨⟨dx, fs, ha, f1, f2, f3, f4⟩, ne, hr1, hp1, hb1⟩, ⟨hr2, hp2, hb2⟩, hc, np, nb, kk⟩ := h
    refine ⟨_, (pss_cons (ps_expr (pe_bm PySem.F.plainAttrs_list PySem.F.slot_list_append PySem.F.type_list_append mt_append (pe_fld (pv 0) rfl) (pa_cons (pv 1) pa_nil)))
      (pss_cons (ps_dput (hu_of hr) (pe_fld (pv 0) rfl) (pv 1) (pv 2) rfl)
      (pss_one (ps_dput (hu_of hr) (pe_fld (pv 0) rfl) (pv 1) (pv 3) rfl)))), ?_⟩
    refine q_app hr1 (ev_fld (ev_var rfl) ha z.cls_Layout z.noat_Layout_routines f1) (ev_var rfl) (by omega) fun H1 e1 => ?_
    have nRa : a ≠ R := fun q => by rw [← q, ha] at hr1; cases hr1
    have nRP : Pm ≠ R := fun q => by rw [q, hr1] at hp1; cases hp1
    have nRB : B ≠ R := fun q => by rw [q, hr1] at hb1; cases hb1
    have nRc : c ≠ R := fun q => by rw [q, hr1] at hc; cases hc
    have nPa : a ≠ Pm := fun q => by rw [← q, ha] at hp1; cases hp1
    have nPc : c ≠ Pm := fun q => by rw [q, hp1] at hc; cases hc
    have nBa : a ≠ B := fun q => by rw [← q, ha] at hb1; cases hb1
    have a1 : (upd H1 R (.lst (rs ++ [.ref c]))) a = some (.ins (layC K) dx fs) := by rw [upd_ne nRa]; exact e1 _ _ ha
    have p1 : (upd H1 R (.lst (rs ++ [.ref c]))) Pm = some (.dT ps) := by rw [upd_ne nRP]; exact e1 _ _ hp1
    have b1 : (upd H1 R (.lst (rs ++ [.ref c]))) B = some (.dT bs) := by rw [upd_ne nRB]; exact e1 _ _ hb1
    have c1 : (upd H1 R (.lst (rs ++ [.ref c]))) c = some (.tup (k.map kV)) := by rw [upd_ne nRc]; exact e1 _ _ hc
    have r1 : (upd H1 R (.lst (rs ++ [.ref c]))) R = some (.lst (rs ++ [.ref c])) := upd_same
    have x1 : Lx a R Pm B H (upd H1 R (.lst (rs ++ [.ref c]))) := fun z u n1 n2 n3 h => by rw [upd_ne n1]; exact e1 _ _ h
    generalize upd H1 R (.lst (rs ++ [.ref c])) = H2 at a1 p1 b1 c1 r1 x1
    refine q_dput (ev_var rfl) (ev_fld (ev_var rfl) a1 z.cls_Layout z.noat_Layout_parameters f2) (ev_var rfl) p1 c1 (by omega) fun H3 e3 => ?_
    have a2 : (upd H3 Pm (.dT (putK ps k p))) a = some (.ins (layC K) dx fs) := by rw [upd_ne nPa]; exact e3 _ _ a1
    have b2 : (upd H3 Pm (.dT (putK ps k p))) B = some (.dT bs) := by rw [upd_ne (Ne.symm ne)]; exact e3 _ _ b1
    have c2 : (upd H3 Pm (.dT (putK ps k p))) c = some (.tup (k.map kV)) := by rw [upd_ne nPc]; exact e3 _ _ c1
    have r2 : (upd H3 Pm (.dT (putK ps k p))) R = some (.lst (rs ++ [.ref c])) := by rw [upd_ne (Ne.symm nRP)]; exact e3 _ _ r1
    have p2 : (upd H3 Pm (.dT (putK ps k p))) Pm = some (.dT (ps ++ [(k, p)])) := by rw [putK_new p np]; exact upd_same
    have x2 : Lx a R Pm B H (upd H3 Pm (.dT (putK ps k p))) := fun z u n1 n2 n3 h => by rw [upd_ne n2]; exact e3 _ _ (x1 z u n1 n2 n3 h)
    generalize upd H3 Pm (.dT (putK ps k p)) = H4 at a2 b2 c2 r2 p2 x2
    refine s_dput (ev_var rfl) (ev_fld (ev_var rfl) a2 z.cls_Layout z.noat_Layout_bodies f3) (ev_var rfl) b2 c2 (by omega) fun H5 e5 => ?_
    refine kk _ (fun z u n1 n2 n3 h => by rw [upd_ne n3]; exact e5 _ _ (x2 z u n1 n2 n3 h)) ⟨⟨dx, fs, by rw [upd_ne nBa]; exact e5 _ _ a2, f1, f2, f3, f4⟩, ne, by rw [upd_ne (Ne.symm nRB)]; exact e5 _ _ r2, by rw [upd_ne ne]; exact e5 _ _ p2, by rw [putK_new b nb]; exact upd_same⟩
/-- after so many codes -/
def LyE (K : PySem.W.Frag) (H0 H1 : Hp) (a R Pm B l0 b : Addr) (E : List (List Nat × Th × Th)) (H : Hp) : Prop := ∃ rs ps bs, LyO K a R Pm B rs (([], .ref l0) :: ps) (([], .ref b) :: bs) H ∧ Paired (PathV H) rs ([] :: E.map (·.1)) ∧ Paired (EntV K H0 H1) ps (E.map parE) ∧ Paired (EntV K H0 H1) bs (E.map bodE) ∧ H l0 = some (.lst []) ∧ l0 ≠ R
theorem LyE.mono {H1 : Hp} {a R Pm B l0 b : Addr} {E : List (List Nat × Th × Th)} (l : LyE K H0 H1 a R Pm B l0 b E H) (e : Ex H H') : LyE K H0 H1 a R Pm B l0 b E H' := by
  obtain ⟨rs, ps, bs, h1, h2, h3, h4, h5, h6⟩ := l
  exact ⟨rs, ps, bs, h1.mono e, Paired.mapP h2 fun _ _ q => q.mono e, h3, h4, e _ _ h5, h6⟩
theorem s_keepF {E0 : XK} {H1 : Hp} {a R Pm B l0 b0 : Addr} {E : List (List Nat × Th × Th)} {code : List Nat} {p b : V} {tp tb' : Th} (ho : Ev to σ H (.ref a)) (hl : LyE K H0 H1 a R Pm B l0 b0 E H) (hn : E.length ≤ 900) (h1 : EvR tc σ H (fun v H' => ∃ c, v = .ref c ∧ H' c = some (.tup ((keyN code).map kV)))) (h2 : Ev ta σ H p) (h3 : Ev tb σ H b)
    (rp : RepN K H0 H1 p tp) (rb : RepN K H0 H1 b tb') (hc : code ∉ E.map (·.1)) (hne : code ≠ []) (kk : ∀ Hm H2, Ex H Hm → Lx a R Pm B Hm H2 → LyE K H0 H1 a R Pm B l0 b0 (E ++ [(code, tp, tb')]) H2 → D.nx σ H2) : tDrop (tMeth (layC K) "_keep" (SpKeepF K) [] E0 to (tCons tc (tCons ta (tCons tb tNil)))) D σ H := ho H (Ex.refl H) _ fun H3 e3 => by
  obtain ⟨rs, ps, bs, lo, lp, le, lb, ll, ln⟩ := hl
  have lo3 := lo.mono e3
  obtain ⟨dx, fs, hi, f1, f2, f3, f4⟩ := lo3.ob
  refine ⟨a, dx, fs, rfl, hi, f4, ?_⟩
  refine h1 H3 e3 _ fun v H4 e4 ⟨c, hv, hcc⟩ => ea_cons h2 (ea_cons h3 ea_nil) H4 (e3.trans e4) _ fun H5 e5 => ?_
  subst hv
  have e05 := (e3.trans e4).trans e5
  have lo5 := lo.mono e05
  have hlr := Paired.length lp
  have hlp := Paired.length le
  have hlb := Paired.length lb
  rw [List.length_cons, List.length_map] at hlr
  rw [List.length_map] at hlp hlb
  have vp : valV ps (keyN code) = none := val_none (fun _ _ h => h.1) le (by rw [List.map_map]; exact hc)
  have vb : valV bs (keyN code) = none := val_none (fun _ _ h => h.1) lb (by rw [List.map_map]; exact hc)
  have hk : ¬ (([] : List Key) = keyN code) := fun q => hne (keyN_inj (p := []) q).symm
  refine ⟨a, c, p, b, keyN code, R, Pm, B, rs, _, _, rfl, lo5, ⟨by omega, by rw [List.length_cons]; omega, by rw [List.length_cons]; omega⟩, e5 _ _ hcc, by rw [valV_neg hk]; exact vp, by rw [valV_neg hk]; exact vb, fun H6 lx lo6 => kk H5 H6 e05 lx ⟨rs ++ [.ref c], ps ++ [(keyN code, p)], bs ++ [(keyN code, b)], lo6, ?_, ?_, ?_, ?_, ln⟩⟩
  · rw [List.map_append, ← List.cons_append]
    have keep : ∀ {v : V} {q : List Nat}, PathV H5 v q → PathV H6 v q := fun ⟨q, hv, hq⟩ => ⟨q, hv, lx q _ (fun zz => by rw [zz, lo5.r] at hq; cases hq) (fun zz => by rw [zz, lo5.p] at hq; cases hq) (fun zz => by rw [zz, lo5.b] at hq; cases hq) hq⟩
    refine Paired.snoc (Paired.mapP lp fun _ _ q => keep (q.mono e05)) ?_
    exact keep ⟨c, rfl, by rw [← keyN_kV]; exact e5 _ _ hcc⟩
  · rw [List.map_append]
    exact Paired.snoc le ⟨rfl, rp⟩
  · rw [List.map_append]
    exact Paired.snoc lb ⟨rfl, rb⟩
  · exact lx l0 _ ln (fun zz => by have := e05 _ _ ll; rw [zz, lo5.p] at this; cases this) (fun zz => by have := e05 _ _ ll; rw [zz, lo5.b] at this; cases this) (e05 _ _ ll)
/-! a part of the heap without the lists that stand in another one -/
open Classical in
noncomputable def cutL (H0 H : Hp) : Hp := fun a => match H a with
  | some (.lst xs) => if H0 a = none then some (.lst xs) else none
  | o => o
theorem cutL_ex : Ex (cutL H0 H) H := fun a u h => by
  unfold cutL at h
  split at h
  · rename_i xs hx
    split at h
    · rw [hx]
      exact h
    · cases h
  · exact h
theorem cutL_lst {a : Addr} {xs : List V} (h : H a = some (.lst xs)) (n : H0 a = none) : cutL H0 H a = some (.lst xs) := by
  unfold cutL
  rw [h]
  exact if_pos n
theorem cutL_of {a : Addr} {xs : List V} (h : cutL H0 H a = some (.lst xs)) : H0 a = none := by
  unfold cutL at h
  split at h
  · split at h
    · rename_i n
      exact n
    · cases h
  · rename_i o hno
    exact (hno _ h).elim
theorem cutL_other {a : Addr} {u : HO} (h : H a = some u) (hu : ∀ xs, u ≠ .lst xs) : cutL H0 H a = some u := by
  unfold cutL
  rw [h]
  cases u <;> first | rfl | exact absurd rfl (hu _)
theorem cutL_sqt {a : Addr} {xs : List V} (h : SqT K H a xs) : SqT K (cutL H0 H) a xs := by
  rcases h with (h | ⟨v, h⟩) | h
  · exact .inl (.inl (cutL_other h fun _ q => nomatch q))
  · exact .inl (.inr ⟨v, cutL_other h fun _ q => nomatch q⟩)
  · exact .inr h
mutual
theorem RepN.cut : ∀ {v : V} {t : Th}, RepN K H0 H v t → Rep K (cutL H0 H) v t
  | _, _, .non => .non
  | _, _, .bl b => .bl b
  | _, _, .int i => .int i
  | _, _, .str x => .str x
  | _, _, .lst n h r => .lst (cutL_lst h n) (RepsN.cut r)
  | _, _, .tup h r => .tup (cutL_sqt h) (RepsN.cut r)
  | _, _, .dic h => .dic (cutL_other h fun _ q => nomatch q)
theorem RepsN.cut : ∀ {vs : List V} {ts : List Th}, RepsN K H0 H vs ts → Reps K (cutL H0 H) vs ts
  | _, _, .nil => .nil
  | _, _, .cons h r => .cons (RepN.cut h) (RepsN.cut r)
end
mutual
theorem Rep.uncut : ∀ {v : V} {t : Th}, Rep K (cutL H0 H) v t → RepN K H0 H v t
  | _, _, .non => .non
  | _, _, .bl b => .bl b
  | _, _, .int i => .int i
  | _, _, .str x => .str x
  | _, _, .lst h r => .lst (cutL_of h) (cutL_ex _ _ h) (Reps.uncut r)
  | _, _, .tup h r => .tup (ex_t cutL_ex h) (Reps.uncut r)
  | _, _, .dic h => .dic (cutL_ex _ _ h)
theorem Reps.uncut : ∀ {vs : List V} {ts : List Th}, Reps K (cutL H0 H) vs ts → RepsN K H0 H vs ts
  | _, _, .nil => .nil
  | _, _, .cons h r => .cons (Rep.uncut h) (Reps.uncut r)
end
mutual
theorem RepN.exi {o : Addr} (hi : IsIns H o) (e : ExO o H H') : ∀ {v : V} {t : Th}, RepN K H0 H v t → RepN K H0 H' v t
  | _, _, .non => .non
  | _, _, .bl b => .bl b
  | _, _, .int i => .int i
  | _, _, .str x => .str x
  | _, _, .lst n h r => .lst n (e.at hi h fun _ _ _ q => nomatch q) (RepsN.exi hi e r)
  | _, _, .tup h r => .tup (e.sqtI hi h) (RepsN.exi hi e r)
  | _, _, .dic h => .dic (e.at hi h fun _ _ _ q => nomatch q)
theorem RepsN.exi {o : Addr} (hi : IsIns H o) (e : ExO o H H') : ∀ {vs : List V} {ts : List Th}, RepsN K H0 H vs ts → RepsN K H0 H' vs ts
  | _, _, .nil => .nil
  | _, _, .cons h r => .cons (RepN.exi hi e h) (RepsN.exi hi e r)
end
/-- a layout: its rows, the top block at b -/
structure LayF (K : PySem.W.Frag) (H0 : Hp) (a b : Addr) (rows : List Row) (H : Hp) : Prop where
  ex : ∃ dx fs L S R B Pm l0 ys ss rs ps bs, H a = some (.ins (layC K) dx fs) ∧ (fs.lookup ("order" : Str) = some (.ref L) ∧ fs.lookup ("statements" : Str) = some (.ref S) ∧ fs.lookup ("routines" : Str) = some (.ref R) ∧ fs.lookup ("bodies" : Str) = some (.ref B) ∧ fs.lookup ("parameters" : Str) = some (.ref Pm) ∧ fs.lookup ("code_around" : Str) = none) ∧
    (H L = some (.lst ys) ∧ Paired (PathV H) ys (rows.map (·.p))) ∧ (H S = some (.dT ss) ∧ Paired (EntV K H0 H) ss (rows.map fun w => (w.p, w.t))) ∧ (H R = some (.lst rs) ∧ Paired (PathV H) rs ([] :: (allC rows).map (·.1))) ∧
    (H B = some (.dT (([], .ref b) :: bs)) ∧ Paired (EntV K H0 H) bs ((allC rows).map bodE)) ∧ (H Pm = some (.dT (([], .ref l0) :: ps)) ∧ Paired (EntV K H0 H) ps ((allC rows).map parE)) ∧ H l0 = some (.lst []) ∧ (H0 L = none ∧ H0 S = none ∧ H0 R = none ∧ H0 B = none ∧ H0 Pm = none ∧ H0 l0 = none ∧ H0 a = none)
theorem RepsN.getN : ∀ {vs : List V} {ts : List Th} {i : Nat} {v : V}, RepsN K H0 H vs ts → vs[i]? = some v → ∃ t, ts[i]? = some t ∧ RepN K H0 H v t
  | _, _, _, _, .nil, e => by simp at e
  | _, _, 0, _, .cons h _, e => by
    simp at e
    subst e
    exact ⟨_, by simp, h⟩
  | _, _, i + 1, v, .cons _ r, e => by
    obtain ⟨t, h1, h2⟩ := RepsN.getN (i := i) (v := v) r (by simpa using e)
    exact ⟨t, by simpa using h1, h2⟩
theorem RepsN.getT : ∀ {vs : List V} {ts : List Th} {i : Nat} {t : Th}, RepsN K H0 H vs ts → ts[i]? = some t → ∃ v, vs[i]? = some v ∧ RepN K H0 H v t
  | _, _, _, _, .nil, e => by simp at e
  | _, _, 0, _, .cons h _, e => by
    simp at e
    subst e
    exact ⟨_, by simp, h⟩
  | _, _, i + 1, t, .cons _ r, e => by
    obtain ⟨v, h1, h2⟩ := RepsN.getT (i := i) (t := t) r (by simpa using e)
    exact ⟨v, by simpa using h1, h2⟩
theorem Dm.trans' {H1 H2 H3 : Hp} (a : Dm H1 H2) (b : Dm H2 H3) : Dm H1 H3 := fun x h => a x (b x h)
theorem codC_len {w : Row} (h : okRow w = true) : (codC w.t).length ≤ 4 := by
  have hs : stmtB w.t = true := (Bool.and_eq_true_iff.mp h).1
  obtain ⟨w0, ll, ts0, hts, hw0, hll, hlen, hpp⟩ := stmt_parts hs
  unfold codC
  rw [hts, fw_str]
  split
  · simp
  · split
    · rename_i hc
      subst hc
      rw [lk_class] at hll
      cases hll
      obtain ⟨t3, h3⟩ : ∃ u, ts0[2]? = some u := ⟨ts0[2]'(by rw [hlen]; decide), by simp⟩
      have hm := part_methods (hpp 2 "methods" t3 rfl h3)
      rw [List.length_map]
      show (elems (((Th.str "class" :: ts0)[3]?).getD .non)).length ≤ 4
      rw [List.getElem?_cons_succ, h3]
      cases t3 with
      | lst ms => exact of_decide_eq_true (Bool.and_eq_true_iff.mp (show (decide (ms.length ≤ 4) && (ms.all methodB && decide (dc (ms.map headOf) = ms.length))) = true from hm)).1
      | _ => cases hm
    · simp
/-! the parts of the layout's making, told whole -/
theorem er_lcF {a : Addr} {xs : List V} {vs : List Nat} {ps : List (List Nat)} (h : Ev tl σ H (.ref a)) (hx : SqL K H a xs) (hz : xs.length ≤ 1000) (hl : ps.length = xs.length) (ht : ∀ (i : Nat) (x : V) (p : List Nat) (H3 : Hp), Ex H H3 → xs[i]? = some x → ps[i]? = some p → ∀ Qc : L2.St → Hp → Prop, (∀ σ2, wipe σ2 vs = wipe σ vs → (∃ v, Ev te σ2 H3 v ∧ PathV H3 v p) → Qc σ2 H3) → g x (wipe σ vs) H3 Qc) :
    EvR (tLc (iList K tl) g tYes te vs) σ H (fun v H' => ∃ q ys, v = .ref q ∧ H q = none ∧ H' q = some (.lst ys) ∧ Paired (PathV H') ys ps) := fun H0 e Q q =>
  el_rel (n := xs.length) (H := H) (fun i v H' => ∀ p, ps[i]? = some p → PathV H' v p) (fun _ _ _ _ e h p hp => (h p hp).mono e) (fun o acc i v H1 H2 ho eo h p hp => by
      obtain ⟨q, hv, hq⟩ := h p hp
      exact ⟨q, hv, eo _ _ (fun zz => by rw [zz, ho] at hq; cases hq) hq⟩) (by omega) (fun H1 e1 R' q' => h H1 e1 _ fun H2 e2 => ⟨a, rfl, ⟨xs, ex_l (e1.trans e2) hx⟩, q' _ _ _ H2 e2 walk_list (fun H' e3 => ex_l ((e1.trans e2).trans e3) hx) fun i x H3 H4 hi e3 hy => by
    obtain ⟨rfl, hx'⟩ := hy
    obtain ⟨p, hp⟩ : ∃ p, ps[i]? = some p := ⟨_, List.getElem?_eq_getElem (by omega)⟩
    exact ⟨Ex.refl _, fun Qc kc => ht i x p H4 ((e1.trans e2).trans e3) hx' hp Qc fun σ2 hw ⟨v, hv, pv⟩ => kc σ2 H4 hw (Ex.refl _) ((EvR.of hv).imp fun v' H5 e5 hv' p' hp' => by
      rw [hp] at hp'
      cases hp'
      rw [hv']
      exact pv.mono e5)⟩⟩) H0 e Q fun p H1 ys hp e1 h1 hl1 hr => q _ H1 e1 ⟨p, ys, rfl, fresh_back e hp, h1, paired_of (by omega) fun i v pp hv hpp => hr i v hv pp hpp⟩
theorem er_dcF {a : Addr} {xs : List V} {vs : List Nat} {es : List (List Nat × Th)} {W : List Key × V → (List Nat × Th) → Prop} (hW : ∀ kv e, W kv e → kv.1 = keyN e.1) (h : Ev tl σ H (.ref a)) (hx : SqL K H a xs) (hz : xs.length ≤ 1000) (hl : es.length = xs.length) (nd : (es.map (·.1)).Nodup)
    (ht : ∀ (i : Nat) (x0 : V) (e : List Nat × Th) (H3 : Hp), Ex H H3 → xs[i]? = some x0 → es[i]? = some e → ∀ Qc : L2.St → Hp → Prop, (∀ σ2, wipe σ2 vs = wipe σ vs → (∃ b y, Ev tk σ2 H3 (.ref b) ∧ H3 b = some (.tup ((keyN e.1).map kV)) ∧ Ev tv σ2 H3 y ∧ W (keyN e.1, y) e) → Qc σ2 H3) → g x0 (wipe σ vs) H3 Qc) :
    EvR (tDcT (iList K tl) g tYes tk tv vs) σ H (fun v H' => ∃ p kvs, v = .ref p ∧ H p = none ∧ H' p = some (.dT kvs) ∧ Paired W kvs es) := fun H0 e Q q =>
  h H0 e _ fun H1 e1 => ⟨a, rfl, ⟨_, ex_l (e.trans e1) hx⟩, fun Dd hD => by
    refine ⟨fun i m H' => m = xs.length - i ∧ i ≤ xs.length ∧ Ex H1 H' ∧ ∃ kvs, H' Dd = some (.dT kvs) ∧ Paired W kvs (es.take i), ⟨xs.length, by simp, Nat.zero_le _, Ex.new hD, [], upd_same, by rw [List.take_zero]; exact .nil⟩, fun i m H' hw => ?_⟩
    obtain ⟨rfl, hi, e2, kvs, h2, hk⟩ := hw
    have hq := ex_l ((e.trans e1).trans e2) hx
    by_cases lt : i < xs.length
    · refine .inr ⟨walk_list.goes i H' lt hq, fun H'' => Ex H1 H'' ∧ ∃ kvs, H'' Dd = some (.dT kvs) ∧ Paired W kvs (es.take (i + 1)), fun H'' q => ⟨xs.length - (i + 1), by omega, rfl, lt, q⟩, fun x H'' hy => ?_⟩
      obtain ⟨rfl, hx'⟩ := walk_list.yields i H' x H'' lt hq hy
      obtain ⟨en, hen⟩ : ∃ e, es[i]? = some e := ⟨_, List.getElem?_eq_getElem (by omega)⟩
      refine ht i x en H'' ((e.trans e1).trans e2) hx' hen _ fun σ2 hw ⟨b, y, hk2, hb, hv, hWy⟩ => ⟨hw, ?_⟩
      show tk σ2 H'' _
      have hkl := Paired.length hk
      rw [List.length_take] at hkl
      refine hk2 H'' (Ex.refl _) _ fun H3 e3 => hv H3 e3 _ fun H4 e4 => ⟨keyN en.1, b, kvs, rfl, (e3.trans e4) _ _ hb, (e3.trans e4) _ _ h2, sz_lt (by omega), Ex.mut ((e2.trans e3).trans e4) hD, _, upd_same, ?_⟩
      have hnew : en.1 ∉ (es.take i).map (·.1) := fun hm => by
        rw [List.map_take] at hm
        obtain ⟨j, hj⟩ := List.getElem?_of_mem hm
        have hji : j < i := by
          have := (List.getElem?_eq_some_iff.mp hj).1
          rw [List.length_take] at this
          omega
        rw [List.getElem?_take, if_pos hji] at hj
        have hjl := (List.getElem?_eq_some_iff.mp hj).1
        have hil : i < (es.map (·.1)).length := by rw [List.length_map]; omega
        have := List.pairwise_iff_getElem.mp nd j i hjl hil hji
        rw [(List.getElem?_eq_some_iff.mp hj).2, List.getElem_map, (List.getElem?_eq_some_iff.mp hen).2] at this
        exact this rfl
      rw [putK_new y (val_none hW hk hnew), take_more hen]
      exact Paired.snoc hk hWy
    · obtain rfl : i = xs.length := by omega
      rw [List.take_of_length_le (by omega)] at hk
      exact .inl ⟨walk_list.stops H' hq, q _ H' (e1.trans e2) ⟨Dd, kvs, rfl, fresh_back (e.trans e1) hD, h2, hk⟩⟩⟩
theorem er_lst1F {xs : List V} (h : EvU te σ H xs) : EvR (tLst (tCons te tNil)) σ H (fun v H' => ∃ Rr q, v = .ref Rr ∧ H Rr = none ∧ H' Rr = some (.lst [.ref q]) ∧ H' q = some (.tup xs)) := by
  intro H1 e Q q
  unfold tLst tCons tNil
  refine h H1 e _ fun p H2 hp e2 h2 => ⟨sz_of (by simp), fun Rr hR => q _ _ (e2.trans (Ex.new hR)) ⟨Rr, p, rfl, fresh_back (e.trans e2) hR, upd_same, (Ex.new hR) _ _ h2⟩⟩
theorem er_dispV {y : V} (hv : Ev tv σ H y) : EvR (tDisp1 (tTup tNil) tv) σ H (fun v H' => ∃ p, v = .ref p ∧ H p = none ∧ H' p = some (.dT [([], y)])) := fun H0 e Q q p hp => by
  have en := Ex.new hp (o := .dT [])
  refine eu_tup (σ := σ) (H := upd H0 p (.dT [])) ea_nil (by decide) _ (Ex.refl _) _ fun b H1 hb e1 h1 => ?_
  refine hv H1 ((e.trans en).trans e1) _ fun H2 e2 => ⟨[], b, rfl, e2 _ _ h1, (e1.trans e2) _ _ upd_same, q _ _ (Ex.mut ((en.trans e1).trans e2) hp) ⟨p, rfl, fresh_back e hp, upd_same⟩⟩
theorem er_dispL : EvR (tDisp1 (tTup tNil) (tLst tNil)) σ H (fun v H' => ∃ p l, v = .ref p ∧ H p = none ∧ H l = none ∧ H' p = some (.dT [([], .ref l)]) ∧ H' l = some (.lst [])) := fun H0 e Q q p hp => by
  have en := Ex.new hp (o := .dT [])
  refine eu_tup (σ := σ) (H := upd H0 p (.dT [])) ea_nil (by decide) _ (Ex.refl _) _ fun b H1 hb e1 h1 => ?_
  refine ⟨by decide, fun l hl => ?_⟩
  have e2 := Ex.new hl (o := .lst [])
  have hlp : l ≠ p := fun zz => by
    have := e1 _ _ upd_same
    rw [← zz, hl] at this
    cases this
  exact ⟨[], b, rfl, e2 _ _ h1, (e1.trans e2) _ _ upd_same, q _ _ (Ex.mut ((en.trans e1).trans e2) hp) ⟨p, l, rfl, fresh_back e hp, fresh_back ((e.trans en).trans e1) hl, upd_same, by rw [upd_ne hlp]; exact upd_same⟩⟩
def SpLayF (K : PySem.W.Frag) : Sp := fun vs H Q _ => ∃ a dx b xs ts H0, vs = [.ref a, .ref b] ∧ H a = some (.ins (layC K) dx []) ∧ H b = some (.lst xs) ∧ Dm H0 H ∧ H0 a = none ∧ RepsN K H0 H xs ts ∧ Adm (.lst ts) ∧ (surveyT ts).2 = none ∧ ((surveyT ts).1.map (·.p)).Nodup ∧ ∀ H', ExO a H H' → LayF K H0 a b (surveyT ts).1 H' → Q .non H'
theorem er_surveyF {E : XK} {b : Addr} {xs : List V} {ts : List Th} {Hr : Hp} (h : Ev ta σ H (.ref b)) (hb : H b = some (.lst xs)) (er : Ex Hr H) (rs : Reps K Hr xs ts) (ad : Adm (.lst ts)) :
    EvR (tCall (SpSurvG K) [] E (tCons ta tNil)) σ H (fun v H' => ∃ p F pv fvs, v = .ref p ∧ H p = none ∧ H F = none ∧ H' p = some (.tup [.ref F, pv]) ∧ H' F = some (.lst fvs) ∧ RowsAre K Hr H' fvs (surveyT ts).1 ∧
      (match (surveyT ts).2 with | none => pv = .non | some q => ∃ a, pv = .ref a ∧ H' a = some (.tup (pV q)))) := fun H1 e Q q =>
  ea_cons h ea_nil H1 e _ fun H2 e2 => ⟨b, xs, ts, Hr, rfl, (e.trans e2) _ _ hb, er.trans (e.trans e2), rs, ad, fun p F pv fvs H3 hp hF e3 h3 hf hr hm => q _ H3 (e2.trans e3) ⟨p, F, pv, fvs, rfl, fresh_back (e.trans e2) hp, fresh_back (e.trans e2) hF, h3, hf, hr, hm⟩⟩
theorem codC_def {ts0 : List Th} {t2 t3 : Th} (h2 : ts0[1]? = some t2) (h3 : ts0[2]? = some t3) : codC (.tup (.str "def" :: ts0)) = [(t2, t3)] := by
  unfold codC
  rw [fw_str, if_pos rfl]
  show [(((Th.str "def" :: ts0)[2]?).getD .non, ((Th.str "def" :: ts0)[3]?).getD .non)] = _
  rw [List.getElem?_cons_succ, List.getElem?_cons_succ, h2, h3]
  rfl
theorem codC_class {ts0 ms : List Th} (h3 : ts0[2]? = some (.lst ms)) : codC (.tup (.str "class" :: ts0)) = ms.map fun m => (nthT 1 m, nthT 2 m) := by
  unfold codC
  rw [fw_str, if_neg (by decide +kernel), if_pos rfl]
  show (elems (((Th.str "class" :: ts0)[3]?).getD .non)).map _ = _
  rw [List.getElem?_cons_succ, h3]
  rfl
theorem codC_none {w : Str} {ts0 : List Th} (h1 : ¬ w = "def") (h2 : ¬ w = "class") : codC (.tup (.str w :: ts0)) = [] := by
  unfold codC
  rw [fw_str, if_neg h1, if_neg h2]
theorem f_layoutF (z : Cz w K mg) : Mkr P w K mg base 45 "Layout" (SpLayF K) := by
  have c_survey := f_surveyG (P := P) (base := base) z
  have m__keep := f_keepF (P := P) (base := base) z
  refine mkr_of (k := 44) z.mkr_Layout z.fn_Layout_init z.glo_Layout K0.c_Layout_init (fun vs H Q E h => ?_) (fun cdv A outer s H vs Q _ hr h => ?_)
  · obtain ⟨a, dx, b, xs, ts, H0, rfl, _⟩ := h
    rfl
  · obtain ⟨a, dx, b, xs, ts, H0, rfl, ha, hb, dm, h0a, rs, ad, good, nd, k⟩ := h
    refine ⟨_, (pss_cons (ps_asg (pe_c c_survey hr (by first | decide | omega) (by rfl) (pa_cons (pv 1) pa_nil)) (show PG _ _ (gTup K 2 (gCons (gName 2) (gCons (gName 3) gNil))) from by refine pg_tup rfl (pgs_cons ?g0 (pgs_cons ?g1 pgs_nil)); (case g0 => exact (pg_name (i := 2) K0.c_Layout_init.nd rfl (.inl rfl))); (case g1 => exact (pg_name (i := 3) K0.c_Layout_init.nd rfl (.inl rfl)))))
      (pss_cons (ps_fld (pv 0) (pe_lc (own := [("path", 4), ("_", 3)]) rfl K0.c_Layout_init.nd (pi_list (pv 2)) (blkOk_by (N := N_Layout_init) (sc := defScope s_Layout_init) (by decide +kernel)) (fun _ _ _ _ _ => (show PG _ _ (gTup K 3 (gCons (gName 4) (gCons (gName 3) (gCons (gName 3) gNil)))) from by refine pg_tup rfl (pgs_cons ?g0 (pgs_cons ?g1 (pgs_cons ?g2 pgs_nil))); (case g0 => exact (pg_name (i := 4) K0.c_Layout_init.nd rfl (.inl rfl))); (case g1 => exact (pg_name (i := 3) K0.c_Layout_init.nd rfl (.inl rfl))); (case g2 => exact (pg_name (i := 3) K0.c_Layout_init.nd rfl (.inl rfl))))) (fun _ _ _ _ _ => pts_nil) (fun _ _ _ _ _ => (pv 4))) rfl)
      (pss_cons (ps_fld (pv 0) (pe_dcT (own := [("path", 4), ("statement", 5), ("_", 3)]) (Nat.lt_of_succ_lt (hu_of hr)) rfl K0.c_Layout_init.nd (pi_list (pv 2)) (blkOk_by (N := N_Layout_init) (sc := defScope s_Layout_init) (by decide +kernel)) (fun _ _ _ _ _ => (show PG _ _ (gTup K 3 (gCons (gName 4) (gCons (gName 5) (gCons (gName 3) gNil)))) from by refine pg_tup rfl (pgs_cons ?g0 (pgs_cons ?g1 (pgs_cons ?g2 pgs_nil))); (case g0 => exact (pg_name (i := 4) K0.c_Layout_init.nd rfl (.inl rfl))); (case g1 => exact (pg_name (i := 5) K0.c_Layout_init.nd rfl (.inl rfl))); (case g2 => exact (pg_name (i := 3) K0.c_Layout_init.nd rfl (.inl rfl))))) (fun _ _ _ _ _ => pts_nil) (fun _ _ _ _ _ => (pv 4)) (fun _ _ _ _ _ => (pv 5))) rfl)
      (pss_cons (ps_fld (pv 0) (pe_lst (pa_cons (pe_tup pa_nil) pa_nil)) rfl)
      (pss_cons (ps_fld (pv 0) (pe_disp1 (Nat.lt_of_succ_lt (hu_of hr)) (pe_tup pa_nil) (pv 1)) rfl)
      (pss_cons (ps_fld (pv 0) (pe_disp1 (Nat.lt_of_succ_lt (hu_of hr)) (pe_tup pa_nil) (pe_lst pa_nil)) rfl)
      (pss_one (ps_for PassesOwn.never rfl (pi_list (pv 2)) (show PG _ _ (gTup K 3 (gCons (gName 4) (gCons (gName 5) (gCons (gName 3) gNil)))) from by refine pg_tup rfl (pgs_cons ?g0 (pgs_cons ?g1 (pgs_cons ?g2 pgs_nil))); (case g0 => exact (pg_name (i := 4) K0.c_Layout_init.nd rfl (.inl rfl))); (case g1 => exact (pg_name (i := 5) K0.c_Layout_init.nd rfl (.inl rfl))); (case g2 => exact (pg_name (i := 3) K0.c_Layout_init.nd rfl (.inl rfl)))) (pss_one (ps_if (pt_cmpR op_eq (pe_ix (show IxR _ (rIxT K) from ix_tup) (pv 5) pe_int (fun _ _ => rfl)) pe_str (nomark _)) (pss_one (ps_expr (pe_mto m__keep hr (by first | decide | omega) (pv 0) (pa_cons (pe_op (show OpR _ _ (rCatA K) from op_catA) (pv 4) (pe_tup (pa_cons pe_int pa_nil))) (pa_cons (pe_ix (show IxR _ (rIxT K) from ix_tup) (pv 5) pe_int (fun _ _ => rfl)) (pa_cons (pe_ix (show IxR _ (rIxT K) from ix_tup) (pv 5) pe_int (fun _ _ => rfl)) pa_nil)))))) (pss_one (ps_if (pt_cmpR op_eq (pe_ix (show IxR _ (rIxT K) from ix_tup) (pv 5) pe_int (fun _ _ => rfl)) pe_str (nomark _)) (pss_one (ps_for PassesOwn.never rfl (pi_enum (by rfl) z.free_enumerate (pa_cons (pe_ix (show IxR _ (rIxT K) from ix_tup) (pv 5) pe_int (fun _ _ => rfl)) pa_nil)) (show PG _ _ (gTup K 2 (gCons (gName 6) (gCons (gTup K 3 (gCons (gName 3) (gCons (gName 7) (gCons (gName 8) gNil)))) gNil))) from by refine pg_tup rfl (pgs_cons ?g0 (pgs_cons ?g1 pgs_nil)); (case g0 => exact (pg_name (i := 6) K0.c_Layout_init.nd rfl (.inl rfl))); (case g1 => exact (show PG _ _ (gTup K 3 (gCons (gName 3) (gCons (gName 7) (gCons (gName 8) gNil)))) from by refine pg_tup rfl (pgs_cons ?g0 (pgs_cons ?g1 (pgs_cons ?g2 pgs_nil))); (case g0 => exact (pg_name (i := 3) K0.c_Layout_init.nd rfl (.inl rfl))); (case g1 => exact (pg_name (i := 7) K0.c_Layout_init.nd rfl (.inl rfl))); (case g2 => exact (pg_name (i := 8) K0.c_Layout_init.nd rfl (.inl rfl)))))) (pss_one (ps_expr (pe_mto m__keep hr (by first | decide | omega) (pv 0) (pa_cons (pe_op (show OpR _ _ (rCatA K) from op_catA) (pv 4) (pe_tup (pa_cons (pv 6) pa_nil))) (pa_cons (pv 7) (pa_cons (pv 8) pa_nil)))))))) pss_nil)))))))))))), ?_⟩
    refine q_rg (er_surveyF (ev_var rfl) hb (cutL_ex (H0 := H0)) rs.cut ad) fun v H1 e1 ⟨pp, F, pv, fvs, hv, _, _, hpp, hF, hrows, hpv⟩ => ?_
    subst hv
    rw [good] at hpv
    have hpv : pv = .non := hpv
    subst hpv
    refine g_pair hpp ?_
    have hflen := Paired.length hrows
    have hfo := survey_len ts
    generalize hrw : (surveyT ts).1 = rows at hrows hflen hfo nd k
    have hokr : ∀ w ∈ rows, okRow w = true := fun w hw => survey_ok ts w (by rw [hrw]; exact hw)
    have rowG : ∀ (i : Nat) (x0 : V), fvs[i]? = some x0 → ∃ rw, rows[i]? = some rw ∧ okRow rw = true ∧ RowIs K (cutL H0 H) H1 x0 rw := fun i x0 hx => by
      obtain ⟨rw, h1, h2⟩ := paired_get hrows hx
      exact ⟨rw, h1, hokr rw (List.mem_of_getElem? h1), h2⟩
    have ha1 := e1 _ _ ha
    have ia : IsIns H1 a := ⟨_, _, _, ha1⟩
    have dm1 : Dm H0 H1 := dm.trans' (Dm.of e1)
    show tSeq _ _ _ [some (.ref a), some (.ref b), some (.ref F), some .non, none, none, none, none, none] H1
    -- order
    refine q_fld (er_lcF (ps := rows.map (·.p)) (ev_var rfl) (sq_of hF) (by omega) (by rw [List.length_map, hflen]) fun i x0 p0 H3 e3 hx hp0 Qc kc => ?_) (ev_var rfl) ha1 z.cls_Layout z.noat_Layout_order (by decide) fun y2 H2 H3 e2 ⟨L, ys, hy2, hL, hL2, hysl⟩ e3 => ?_
    · obtain ⟨rw, hrow, _, x, pa, ⟨p, q, rfl, hp, hq⟩, _⟩ := rowG i x0 hx
      rw [List.getElem?_map, hrow] at hp0
      cases hp0
      exact g_three (st_of (e3 _ _ hp)) (kc _ rfl ⟨_, ev_var rfl, q, rfl, e3 _ _ hq⟩)
    subst hy2
    have nLa : L ≠ a := fun zz => by rw [zz, ha1] at hL; cases hL
    have keepP : ∀ {Ha Hb' : Hp} {vs : List V} {ps : List (List Nat)}, ExO a Ha Hb' → IsIns Ha a → Paired (PathV Ha) vs ps → Paired (PathV Hb') vs ps := fun xo ii h => Paired.mapP h fun _ _ ⟨q, hv, hq⟩ => ⟨q, hv, xo.at ii hq fun _ _ _ q => nomatch q⟩
    have L3 : (upd H3 a (.ins (layC K) dx (putF "order" (.ref L) []))) L = some (.lst ys) := by
      rw [upd_ne nLa]
      exact e3 _ _ hL2
    have x23 : ExO a H2 (upd H3 a (.ins (layC K) dx (putF "order" (.ref L) []))) := (ExO.of e3).upd
    have P3 := keepP x23 ⟨_, _, _, e2 _ _ ha1⟩ hysl
    have x3 : ExO a H1 (upd H3 a (.ins (layC K) dx (putF "order" (.ref L) []))) := (ExO.of (e2.trans e3)).upd
    have a3 : (upd H3 a (.ins (layC K) dx (putF "order" (.ref L) []))) a = some (.ins (layC K) dx (putF "order" (.ref L) [])) := upd_same
    generalize upd H3 a (.ins (layC K) dx (putF "order" (.ref L) [])) = H4 at x3 a3 L3 P3 x23
    have n3 : (putF "order" (.ref L) []).length ≤ 1 := putF_le "order" (.ref L) []
    have hF4 := x3.at ia hF (fun _ _ _ q => nomatch q)
    have i4 : IsIns H4 a := ⟨_, _, _, a3⟩
    -- statements
    refine q_fld (er_dcF (W := EntV K H0 H1) (es := rows.map fun w => (w.p, w.t)) (fun _ _ h => h.1) (ev_var rfl) (sq_of hF4) (by omega) (by rw [List.length_map, hflen]) (by rw [List.map_map]; exact nd) fun i x0 en H5 e5 hx hen Qc kc => ?_) (ev_var rfl) a3 z.cls_Layout z.noat_Layout_statements (by omega) fun y5 H5 H6 e5 ⟨S, ss, hy5, hS, hS2, hss⟩ e6 => ?_
    · obtain ⟨rw, hrow, _, x, pa, ⟨p, q, rfl, hp, hq⟩, rx, _⟩ := rowG i x0 hx
      rw [List.getElem?_map, hrow] at hen
      cases hen
      have hp4 := x3.at ia hp (fun _ _ _ q => nomatch q)
      have hq4 := x3.at ia hq (fun _ _ _ q => nomatch q)
      exact g_three (st_of (e5 _ _ hp4)) (kc _ rfl ⟨q, x, ev_var rfl, by rw [keyN_kV]; exact e5 _ _ hq4, ev_var rfl, rfl, (Rep.uncut rx).mono e1⟩)
    subst hy5
    have nSa : S ≠ a := fun zz => by rw [zz, a3] at hS; cases hS
    have x46 : ExO a H4 (upd H6 a (.ins (layC K) dx (putF "statements" (.ref S) (putF "order" (.ref L) [])))) := (ExO.of (e5.trans e6)).upd
    have x6 : ExO a H1 (upd H6 a (.ins (layC K) dx (putF "statements" (.ref S) (putF "order" (.ref L) [])))) := x3.trans x46
    have a6 : (upd H6 a (.ins (layC K) dx (putF "statements" (.ref S) (putF "order" (.ref L) [])))) a = some (.ins (layC K) dx (putF "statements" (.ref S) (putF "order" (.ref L) []))) := upd_same
    have n6 := putF_le "statements" (.ref S) (putF "order" (.ref L) [])
    have S6 : (upd H6 a (.ins (layC K) dx (putF "statements" (.ref S) (putF "order" (.ref L) [])))) S = some (.dT ss) := by
      rw [upd_ne nSa]
      exact e6 _ _ hS2
    generalize upd H6 a (.ins (layC K) dx (putF "statements" (.ref S) (putF "order" (.ref L) []))) = H7 at x6 a6 S6 x46
    have i7 : IsIns H7 a := ⟨_, _, _, a6⟩
    have L7 := x46.at i4 L3 fun _ _ _ q => nomatch q
    have P7 := keepP x46 i4 P3
    -- routines
    refine q_fld (er_lst1F (eu_tup ea_nil (by decide))) (ev_var rfl) a6 z.cls_Layout z.noat_Layout_routines (by omega) fun y8 H8 H9 e8 ⟨Rr, u, hy8, hR7, hR8, hu8⟩ e9 => ?_
    subst hy8
    have nRa : Rr ≠ a := fun zz => by rw [zz, a6] at hR7; cases hR7
    generalize hfs9 : putF "routines" (.ref Rr) (putF "statements" (.ref S) (putF "order" (.ref L) [])) = fs9
    have n9 : fs9.length ≤ 3 := by
      have := putF_le "routines" (.ref Rr) (putF "statements" (.ref S) (putF "order" (.ref L) []))
      rw [hfs9] at this
      omega
    have l9 : ∀ f, fs9.lookup f = if f = "routines" then some (.ref Rr) else (putF "statements" (.ref S) (putF "order" (.ref L) [])).lookup f := fun f => by
      rw [← hfs9]
      rw [lookup_putF]
    have x79 : ExO a H7 (upd H9 a (.ins (layC K) dx fs9)) := (ExO.of (e8.trans e9)).upd
    have x9 : ExO a H1 (upd H9 a (.ins (layC K) dx fs9)) := x6.trans x79
    have a9 : (upd H9 a (.ins (layC K) dx fs9)) a = some (.ins (layC K) dx fs9) := upd_same
    have r9 : (upd H9 a (.ins (layC K) dx fs9)) Rr = some (.lst [.ref u]) := by
      rw [upd_ne nRa]
      exact e9 _ _ hR8
    have u9 : (upd H9 a (.ins (layC K) dx fs9)) u = some (.tup []) := by
      rw [upd_ne fun zz => by have := (e8.trans e9) _ _ a6; rw [← zz, e9 _ _ hu8] at this; cases this]
      exact e9 _ _ hu8
    generalize upd H9 a (.ins (layC K) dx fs9) = H10 at x9 a9 r9 u9 x79
    have i10 : IsIns H10 a := ⟨_, _, _, a9⟩
    have back : ∀ {p : Addr} {Ha : Hp}, ExO a H1 Ha → p ≠ a → Ha p = none → H1 p = none := fun {p Ha} xo na hn => by
      cases hh : H1 p with
      | none => rfl
      | some o =>
        have := xo p o na hh
        rw [hn] at this
        cases this
    have hR1 : H1 Rr = none := back x6 nRa hR7
    have hL1 : H1 L = none := hL
    have hS1 : H1 S = none := back x3 nSa hS
    have L10 := x79.at i7 L7 fun _ _ _ q => nomatch q
    have P10 := keepP x79 i7 P7
    have S10 := x79.at i7 S6 fun _ _ _ q => nomatch q
    -- bodies
    refine q_fld (er_dispV (ev_var rfl)) (ev_var rfl) a9 z.cls_Layout z.noat_Layout_bodies (by omega) fun y11 H11 H12 e11 ⟨B, hy11, hB10, hB11⟩ e12 => ?_
    subst hy11
    have nBa : B ≠ a := fun zz => by rw [zz, a9] at hB10; cases hB10
    generalize hfs12 : putF "bodies" (.ref B) fs9 = fs12
    have n12 : fs12.length ≤ 4 := by
      have := putF_le "bodies" (.ref B) fs9
      rw [hfs12] at this
      omega
    have l12 : ∀ f, fs12.lookup f = if f = "bodies" then some (.ref B) else fs9.lookup f := fun f => by
      rw [← hfs12]
      rw [lookup_putF]
    have x1012 : ExO a H10 (upd H12 a (.ins (layC K) dx fs12)) := (ExO.of (e11.trans e12)).upd
    have x12 : ExO a H1 (upd H12 a (.ins (layC K) dx fs12)) := x9.trans x1012
    have a12 : (upd H12 a (.ins (layC K) dx fs12)) a = some (.ins (layC K) dx fs12) := upd_same
    have b12 : (upd H12 a (.ins (layC K) dx fs12)) B = some (.dT [([], .ref b)]) := by
      rw [upd_ne nBa]
      exact e12 _ _ hB11
    generalize upd H12 a (.ins (layC K) dx fs12) = H13 at x12 a12 b12 x1012
    have hB1 : H1 B = none := back x9 nBa hB10
    have i13 : IsIns H13 a := ⟨_, _, _, a12⟩
    have r13 := x1012.at i10 r9 fun _ _ _ q => nomatch q
    have u13 := x1012.at i10 u9 fun _ _ _ q => nomatch q
    have L13 := x1012.at i10 L10 fun _ _ _ q => nomatch q
    have P13 := keepP x1012 i10 P10
    have S13 := x1012.at i10 S10 fun _ _ _ q => nomatch q
    -- parameters
    refine q_fld er_dispL (ev_var rfl) a12 z.cls_Layout z.noat_Layout_parameters (by omega) fun y14 H14 H15 e14 ⟨Pm, l0, hy14, hP13, hl13, hP14, hl14⟩ e15 => ?_
    subst hy14
    have nPa : Pm ≠ a := fun zz => by rw [zz, a12] at hP13; cases hP13
    have nla : l0 ≠ a := fun zz => by rw [zz, a12] at hl13; cases hl13
    have nPB : Pm ≠ B := fun zz => by rw [zz, b12] at hP13; cases hP13
    have nlR : l0 ≠ Rr := fun zz => by rw [zz, r13] at hl13; cases hl13
    generalize hfs15 : putF "parameters" (.ref Pm) fs12 = fs15
    have l15 : ∀ f, fs15.lookup f = if f = "parameters" then some (.ref Pm) else fs12.lookup f := fun f => by
      rw [← hfs15]
      rw [lookup_putF]
    have x1315 : ExO a H13 (upd H15 a (.ins (layC K) dx fs15)) := (ExO.of (e14.trans e15)).upd
    have x15 : ExO a H1 (upd H15 a (.ins (layC K) dx fs15)) := x12.trans x1315
    have a15 : (upd H15 a (.ins (layC K) dx fs15)) a = some (.ins (layC K) dx fs15) := upd_same
    have p15 : (upd H15 a (.ins (layC K) dx fs15)) Pm = some (.dT [([], .ref l0)]) := by
      rw [upd_ne nPa]
      exact e15 _ _ hP14
    have z15 : (upd H15 a (.ins (layC K) dx fs15)) l0 = some (.lst []) := by
      rw [upd_ne nla]
      exact e15 _ _ hl14
    generalize upd H15 a (.ins (layC K) dx fs15) = H16 at x15 a15 p15 z15 x1315
    have hP1 : H1 Pm = none := back x12 nPa hP13
    have hl1 : H1 l0 = none := back x12 nla hl13
    have i16 : IsIns H16 a := ⟨_, _, _, a15⟩
    have r16 := x1315.at i13 r13 fun _ _ _ q => nomatch q
    have u16 := x1315.at i13 u13 fun _ _ _ q => nomatch q
    have b16 := x1315.at i13 b12 fun _ _ _ q => nomatch q
    have L16 := x1315.at i13 L13 fun _ _ _ q => nomatch q
    have P16 := keepP x1315 i13 P13
    have S16 := x1315.at i13 S13 fun _ _ _ q => nomatch q
    have nLR : L ≠ Rr := fun zz => by rw [← zz, L7] at hR7; cases hR7
    have E16 : LyE K H0 H1 a Rr Pm B l0 b [] H16 := by
      refine ⟨[.ref u], [], [], ⟨⟨dx, fs15, a15, ?_, ?_, ?_, ?_⟩, nPB, r16, p15, b16⟩, .cons ⟨u, rfl, u16⟩ .nil, .nil, .nil, z15, nlR⟩
      · rw [l15, if_neg (by decide), l12, if_neg (by decide), l9, if_pos rfl]
      · rw [l15, if_pos rfl]
      · rw [l15, if_neg (by decide), l12, if_pos rfl]
      · rw [l15, if_neg (by decide), l12, if_neg (by decide), l9, if_neg (by decide), lookup_putF, if_neg (by decide), lookup_putF, if_neg (by decide)]
        rfl
    -- what stays: the object, the order, the statements
    have lk : fs15.lookup ("order" : Str) = some (.ref L) ∧ fs15.lookup ("statements" : Str) = some (.ref S) ∧ fs15.lookup ("routines" : Str) = some (.ref Rr) ∧ fs15.lookup ("bodies" : Str) = some (.ref B) ∧ fs15.lookup ("parameters" : Str) = some (.ref Pm) ∧ fs15.lookup ("code_around" : Str) = none := by
      refine ⟨?_, ?_, ?_, ?_, ?_, ?_⟩
      · rw [l15, if_neg (by decide), l12, if_neg (by decide), l9, if_neg (by decide), lookup_putF, if_neg (by decide), lookup_putF, if_pos rfl]
      · rw [l15, if_neg (by decide), l12, if_neg (by decide), l9, if_neg (by decide), lookup_putF, if_pos rfl]
      · rw [l15, if_neg (by decide), l12, if_neg (by decide), l9, if_pos rfl]
      · rw [l15, if_neg (by decide), l12, if_pos rfl]
      · rw [l15, if_pos rfl]
      · rw [l15, if_neg (by decide), l12, if_neg (by decide), l9, if_neg (by decide), lookup_putF, if_neg (by decide), lookup_putF, if_neg (by decide)]
        rfl
    have nLP : L ≠ Pm := fun zz => by rw [zz, p15] at L16; cases L16
    have nLB : L ≠ B := fun zz => by rw [zz, b16] at L16; cases L16
    have nSR : S ≠ Rr := fun zz => by rw [zz, r16] at S16; cases S16
    have nSP : S ≠ Pm := fun zz => by rw [← zz, S13] at hP13; cases hP13
    have nSB : S ≠ B := fun zz => by rw [← zz, S10] at hB10; cases hB10
    clear l15 l12 l9
    generalize hSt : (fun (H' : Hp) => H' a = some (.ins (layC K) dx fs15) ∧ H' L = some (.lst ys) ∧ Paired (PathV H') ys (rows.map (·.p)) ∧ H' S = some (.dT ss)) = St
    have St16 : St H16 := by rw [← hSt]; exact ⟨a15, L16, P16, S16⟩
    have stM : ∀ {Ha Hb' : Hp}, Ex Ha Hb' → St Ha → St Hb' := fun {Ha Hb'} e h => by
      rw [← hSt] at h ⊢
      exact ⟨e _ _ h.1, e _ _ h.2.1, Paired.mapP h.2.2.1 fun _ _ q => q.mono e, e _ _ h.2.2.2⟩
    have stX : ∀ {Ha Hb' : Hp}, Lx a Rr Pm B Ha Hb' → (∃ rs' ps' bs', LyO K a Rr Pm B rs' ps' bs' Ha) → St Ha → St Hb' := fun {Ha Hb'} lx ⟨rs', ps', bs', lo⟩ h => by
      rw [← hSt] at h ⊢
      exact ⟨lx _ _ (Ne.symm nRa) (Ne.symm nPa) (Ne.symm nBa) h.1, lx _ _ nLR nLP nLB h.2.1, Paired.mapP h.2.2.1 fun _ _ ⟨q, hv, hq⟩ => ⟨q, hv, lx q _ (fun zz => by rw [zz, lo.r] at hq; cases hq) (fun zz => by rw [zz, lo.p] at hq; cases hq) (fun zz => by rw [zz, lo.b] at hq; cases hq) hq⟩, lx _ _ nSR nSP nSB h.2.2.2⟩
    have len4 : ∀ i, i ≤ rows.length → (allC (rows.take i)).length ≤ 4 * i := fun i hi => by
      unfold allC
      have h4 := flat_len (f := entC) (l := rows.take i) (c := 4) fun w hw => by
        unfold entC
        rw [List.length_map, List.length_zipIdx]
        exact codC_len (hokr w (List.mem_of_mem_take hw))
      rw [List.length_take] at h4
      omega
    -- the loop over the rows
    refine s_forL (xs := fvs) (ev_var rfl) (sq_of (x15.at ia hF fun _ _ _ q => nomatch q)) (fun i σ' H' => (∃ s3 s4 s5 s6 s7 s8, σ' = [some (.ref a), some (.ref b), some (.ref F), s3, s4, s5, s6, s7, s8]) ∧ ExO a H1 H' ∧ LyE K H0 H1 a Rr Pm B l0 b (allC (rows.take i)) H' ∧ St H')
      (fun H17 e17 => ⟨⟨_, _, _, _, _, _, rfl⟩, x15.trans (ExO.of e17), E16.mono e17, stM e17 St16⟩) (fun i σ' H' _ q => sq_of (q.2.1.at ia hF fun _ _ _ q => nomatch q)) ?_ (fun σ' H' q => ?_)
    rotate_left
    · obtain ⟨_, xx, ⟨rs', ps', bs', lo, lp, le, lb, ll, _⟩, hst⟩ := q
      rw [← hSt] at hst
      rw [hflen, List.take_of_length_le (Nat.le_refl _)] at lp le lb
      refine k H' ((ExO.of e1).trans xx) ⟨dx, fs15, L, S, Rr, B, Pm, l0, ys, ss, rs', ps', bs', hst.1, lk, ⟨hst.2.1, hst.2.2.1⟩, ⟨hst.2.2.2, Paired.mapP hss fun _ _ h => ⟨h.1, h.2.exi ia xx⟩⟩, ⟨lo.r, lp⟩, ⟨lo.b, Paired.mapP lb fun _ _ h => ⟨h.1, h.2.exi ia xx⟩⟩, ⟨lo.p, Paired.mapP le fun _ _ h => ⟨h.1, h.2.exi ia xx⟩⟩, ll, dm1 _ hL1, dm1 _ hS1, dm1 _ hR1, dm1 _ hB1, dm1 _ hP1, dm1 _ hl1, h0a⟩
    rintro i x0 σ' H' hx ⟨⟨s3, s4, s5, s6, s7, s8, rfl⟩, xx, LL, hst⟩
    have hi100 : i < fvs.length := (List.getElem?_eq_some_iff.mp hx).1
    obtain ⟨rw, hrow, hok, x, pl, ⟨p, q, rfl, hp, hq⟩, rx0, ax0, _, hlenp, _⟩ := rowG i x0 hx
    have hs : stmtB rw.t = true := (Bool.and_eq_true_iff.mp hok).1
    have r1n : RepN K H0 H1 x rw.t := (Rep.uncut rx0).mono e1
    have r1 : Rep K H1 x rw.t := r1n.rep
    obtain ⟨w0, ll, ts0, hts, hw0, hll, hlen, hpp2⟩ := stmt_parts hs
    have hE := len4 i (by omega)
    have htk := allC_take hrow
    have hnew : ∀ j, rw.p ++ [j] ∉ (allC (rows.take i)).map (·.1) := fun j => code_new nd hrow
    rw [hts] at r1 r1n
    have hpV : (pV rw.p).length ≤ 1000 := by
      unfold pV
      rw [List.length_map]
      have := hlenp.1
      have := hlenp.2
      omega
    refine g_three (st_of (xx.at ia hp fun _ _ _ q => nomatch q)) ?_
    show tIfS _ _ _ _ [some (.ref a), some (.ref b), some (.ref F), some (.ref pl), some (.ref q), some x, s6, s7, s8] H'
    have rr := Rep.exi ia xx r1
    have hq' := xx.at ia hq fun _ _ _ q => nomatch q
    have lyx : ∀ {Hm : Hp} {E : List (List Nat × Th × Th)}, LyE K H0 H1 a Rr Pm B l0 b E Hm → ∃ rs' ps' bs', LyO K a Rr Pm B rs' ps' bs' Hm := fun ⟨_, _, _, lo, _⟩ => ⟨_, _, _, lo⟩
    obtain ⟨v0, rv0, ev0⟩ := ev_item (i := 0) (ta := tVar 5) (σ := [some (.ref a), some (.ref b), some (.ref F), some (.ref pl), some (.ref q), some x, s6, s7, s8]) (ev_var rfl) rr (show (Th.str w0 :: ts0)[0]? = some (.str w0) from rfl)
    cases rv0
    obtain ⟨ax, vx, hxa, hT1, rs1⟩ : ∃ ax vx, x = .ref ax ∧ SqT K H1 ax vx ∧ RepsN K H0 H1 vx (.str w0 :: ts0) := by
      cases r1n with
      | tup h r => exact ⟨_, _, rfl, h, r⟩
    subst hxa
    refine s_if (b := decide (w0 = "def")) (et_test (ev_op ev0 ev_c rv_sEq)) (fun hb H17 e17 => ?_) (fun hb H17 e17 => ?_)
    · have hc : w0 = "def" := of_decide_eq_true hb
      subst hc
      rw [lk_def] at hll
      cases hll
      obtain ⟨t2, h2⟩ : ∃ u, ts0[1]? = some u := ⟨ts0[1]'(by rw [hlen]; decide), by simp⟩
      obtain ⟨t3, h3⟩ : ∃ u, ts0[2]? = some u := ⟨ts0[2]'(by rw [hlen]; decide), by simp⟩
      obtain ⟨v2, hv2, rv2⟩ := rs1.getT (i := 2) (t := t2) h2
      obtain ⟨v3, hv3, rv3⟩ := rs1.getT (i := 3) (t := t3) h3
      have hT17 := ex_t e17 (xx.sqtI ia hT1)
      have e1c : entC rw = [(rw.p ++ [0], t2, t3)] := by
        unfold entC
        rw [hts, codC_def h2 h3]
        rfl
      refine s_keepF (code := rw.p ++ [0]) (ev_var rfl) (LL.mono e17) (by omega) ((er_cat (ks := pV rw.p) (ev_var rfl) (st_of (e17 _ _ hq')) hpV ev_c).imp fun v H2 _ ⟨r9, hv9, h9⟩ => ⟨r9, hv9, by rw [h9, keyN_snoc]; exact pV_key rw.p 0⟩) (ev_ixT (i := 2) (ev_var rfl) hT17 hv2) (ev_ixT (i := 3) (ev_var rfl) hT17 hv3) rv2 rv3 (hnew 0) (by simp) fun H18 H19 e18 lx l19 => ?_
      refine ⟨⟨_, _, _, _, _, _, rfl⟩, Lx.ex (xx.trans (ExO.of (e17.trans e18))) hR1 hP1 hB1 lx, ?_, stX lx (lyx ((LL.mono e17).mono e18)) (stM (e17.trans e18) hst)⟩
      rw [htk, e1c]
      exact l19
    · have nd1 : ¬ w0 = "def" := of_decide_eq_false hb
      refine s_when (b := decide (w0 = "class")) (et_test (ev_op (Ev.mono e17 ev0) ev_c rv_sEq)) (fun hb2 H18 e18 => ?_) (fun hb2 H18 e18 => ⟨⟨_, _, _, _, _, _, rfl⟩, xx.trans (ExO.of (e17.trans e18)), ?_, stM (e17.trans e18) hst⟩)
      rotate_left
      · have nd2 : ¬ w0 = "class" := of_decide_eq_false hb2
        have e1c : entC rw = [] := by
          unfold entC
          rw [hts, codC_none nd1 nd2]
          rfl
        rw [htk, e1c, List.append_nil]
        exact LL.mono (e17.trans e18)
      have hc : w0 = "class" := of_decide_eq_true hb2
      subst hc
      rw [lk_class] at hll
      cases hll
      obtain ⟨t3, h3⟩ : ∃ u, ts0[2]? = some u := ⟨ts0[2]'(by rw [hlen]; decide), by simp⟩
      have hm := part_methods (hpp2 2 "methods" t3 rfl h3)
      have x18 := xx.trans (ExO.of (e17.trans e18))
      obtain ⟨v3, hv3, rv3⟩ := rs1.getT (i := 3) (t := t3) h3
      have ev3' : Ev (tOp (rIxT K) (tVar 5) (tC (.int ((3 : Nat) : Int)))) [some (.ref a), some (.ref b), some (.ref F), some (.ref pl), some (.ref q), some (.ref ax), s6, s7, s8] H18 v3 := ev_ixT (ev_var rfl) (x18.sqtI ia hT1) hv3
      cases rv3 with
      | lst nM hM rM =>
        rename_i am vs ms
        obtain ⟨m1, m2⟩ := Bool.and_eq_true_iff.mp (show (decide (ms.length ≤ 4) && (ms.all methodB && decide (dc (ms.map headOf) = ms.length))) = true from hm)
        have hmm : ms.length ≤ 4 := of_decide_eq_true m1
        have hmb := (Bool.and_eq_true_iff.mp m2).1
        have hml := rM.rep.length
        have e1c : codC rw.t = ms.map fun m => (nthT 1 m, nthT 2 m) := by rw [hts, codC_class h3]
        have e1l : (entC rw).length = ms.length := by
          unfold entC
          rw [List.length_map, List.length_zipIdx, e1c, List.length_map]
        refine s_forE (EvR.of ev3') fun v H19 e19 hv => ?_
        subst hv
        refine ⟨am, vs, rfl, sq_of ((x18.trans (ExO.of e19)).at ia hM fun _ _ _ q => nomatch q), fun j σ' H' => (∃ s3 s6 s7 s8, σ' = [some (.ref a), some (.ref b), some (.ref F), s3, some (.ref q), some (.ref ax), s6, s7, s8]) ∧ ExO a H1 H' ∧ LyE K H0 H1 a Rr Pm B l0 b (allC (rows.take i) ++ (entC rw).take j) H' ∧ St H', ⟨⟨_, _, _, _, rfl⟩, x18.trans (ExO.of e19), by rw [List.take_zero, List.append_nil]; exact LL.mono ((e17.trans e18).trans e19), stM ((e17.trans e18).trans e19) hst⟩, ?_, ?_, ?_⟩
        · rintro j σ' H' _ ⟨_, y1, _⟩
          exact sq_of (y1.at ia hM fun _ _ _ q => nomatch q)
        · rintro j y σ' H20 T hy ⟨⟨s3', s6', s7', s8', rfl⟩, y2, LJ, OJ⟩ hT
          have hj : j < ms.length := by
            have := (List.getElem?_eq_some_iff.mp hy).1
            omega
          obtain ⟨mt, hmt, rmt⟩ := rM.getN hy
          have hmt2 := List.all_eq_true.mp hmb mt (List.mem_of_getElem? hmt)
          have hq2 := (Ex.new hT (o := .tup [.int (j : Nat), y])) _ _ (y2.at ia hq fun _ _ _ q => nomatch q)
          unfold methodB at hmt2
          split at hmt2
          · rename_i n0 ps0 b0
            cases rmt with
            | tup hTm rTm =>
              rename_i ay us
              obtain ⟨u0, hu0, ru0⟩ := rTm.getT (i := 0) (t := n0) rfl
              obtain ⟨u1, hu1, ru1⟩ := rTm.getT (i := 1) (t := .lst ps0) rfl
              obtain ⟨u2, hu2, ru2⟩ := rTm.getT (i := 2) (t := b0) rfl
              have hus : us = [u0, u1, u2] := by
                have hl3 := rTm.rep.length
                match us, hl3 with
                | [c0, c1, c2], _ =>
                  cases hu0
                  cases hu1
                  cases hu2
                  rfl
              subst hus
              have hTm2 := ex_t (Ex.new hT (o := .tup [.int (j : Nat), .ref ay])) (y2.sqtI ia hTm)
              refine ⟨T, [.int (j : Nat), .ref ay], rfl, st_of upd_same, rfl, _, _, rfl, _, _, rfl, ?_⟩
              refine g_three hTm2 ?_
              refine ⟨rfl, ?_⟩
              have hej : (entC rw)[j]? = some (rw.p ++ [j], .lst ps0, b0) := entC_get (by rw [e1c, List.getElem?_map, hmt]; rfl)
              refine s_keepF (code := rw.p ++ [j]) (tp := .lst ps0) (tb' := b0) (ev_var rfl) (LJ.mono (Ex.new hT)) (by rw [List.length_append, List.length_take]; omega) ((er_cat (ks := pV rw.p) (ev_var rfl) (st_of hq2) hpV (ev_var rfl)).imp fun v H2 _ ⟨r9, hv9, h9⟩ => ⟨r9, hv9, by rw [h9, keyN_snoc]; exact pV_key rw.p j⟩) (ev_var rfl) (ev_var rfl) ru1 ru2 (by
                rw [List.map_append, List.mem_append, not_or]
                exact ⟨hnew j, code_new2⟩) (by simp) fun H21 H22 e21 lx l22 => ?_
              have lz := Lx.ex (a := a) (y2.trans (ExO.of ((Ex.new hT).trans e21))) hR1 hP1 hB1 lx
              refine ⟨⟨_, _, _, _, rfl⟩, lz, ?_, stX lx (lyx ((LJ.mono (Ex.new hT)).mono e21)) (stM ((Ex.new hT).trans e21) OJ)⟩
              rw [take_more hej, ← List.append_assoc]
              exact l22
          · cases hmt2
        · rintro σ' H' ⟨⟨s3', s6', s7', s8', rfl⟩, y2, LJ, OJ⟩
          refine ⟨⟨_, _, _, _, _, _, rfl⟩, y2, ?_, OJ⟩
          rw [htk]
          rw [hml, ← e1l, List.take_of_length_le (Nat.le_refl _)] at LJ
          exact LJ
      | _ => cases hm
end
end K0
/-! ## K2D -/
set_option Elab.async false
set_option linter.all false
set_option maxRecDepth 100000
set_option maxHeartbeats 8000000
namespace K0
open PySem PySem.Spec PyProof.Rows L2 Evl RZ KB
section
variable {P : Program} {w : World} {K : PySem.W.Frag} {mg : Str → Option Value} {base : Heap} {σ : L2.St} {H H' H0 : Hp} {ta tb tc td te tl tv tk to : TE} {x y kv : V} {X0 : XK} {tu tz : TS} {D : Ends} {g : TG} {R : V → Hp → Prop}
/-- Program of any block: none, or the path of the fault -/
def progM : Th → Option (List Nat)
  | .lst ts => if ts.length ≤ 12 then (surveyT ts).2 else some []
  | _ => some []

theorem RepN.exoL {o : Addr} {acc : List V} (h0 : H0 o ≠ none) (ho : H o = some (.lst acc)) (e : ExO o H H') {v : V} {t : Th} (r : RepN K H0 H v t) : RepN K H0 H' v t := r.exo h0 ho e
mutual
theorem RepN.avoid' {p : Addr} {o : HO} (hp : H p = none) : ∀ {v : V} {t : Th}, RepN K H0 H v t → RepN K (upd H0 p o) H v t
  | _, _, .non => .non
  | _, _, .bl b => .bl b
  | _, _, .int i => .int i
  | _, _, .str x => .str x
  | _, _, .lst n h r => .lst (by rw [upd_ne (fun q => by rw [q, hp] at h; cases h)]; exact n) h (RepsN.avoid' hp r)
  | _, _, .tup h r => .tup h (RepsN.avoid' hp r)
  | _, _, .dic h => .dic h
theorem RepsN.avoid' {p : Addr} {o : HO} (hp : H p = none) : ∀ {vs : List V} {ts : List Th}, RepsN K H0 H vs ts → RepsN K (upd H0 p o) H vs ts
  | _, _, .nil => .nil
  | _, _, .cons h r => .cons (RepN.avoid' hp h) (RepsN.avoid' hp r)
end
theorem EntV.imp {H1 H2 : Hp} {kv : List Key × V} {e : List Nat × Th} (h : ∀ v t, RepN K H0 H v t → RepN K H1 H2 v t) (q : EntV K H0 H kv e) : EntV K H1 H2 kv e := ⟨q.1, h _ _ q.2⟩
/-- a layout while other things change -/
theorem LayF.imp {H1 H2 : Hp} {a b : Addr} {rows : List Row} (hk : ∀ z u, H0 z = none → H z = some u → (∀ C dx fs, u = .ins C dx fs → z = a) → H2 z = some u) (ht : ∀ z xs, H z = some (.tup xs) → H2 z = some (.tup xs)) (h0 : ∀ z u, H0 z = none → H z = some u → H1 z = none) (hr : ∀ v t, RepN K H0 H v t → RepN K H1 H2 v t) (l : LayF K H0 a b rows H) : LayF K H1 a b rows H2 := by
  obtain ⟨dx, fs, L, S, R, B, Pm, l0, ys, ss, rs, ps, bs, ha, lk, ⟨hL, pL⟩, ⟨hS, pS⟩, ⟨hR, pR⟩, ⟨hB, pB⟩, ⟨hP, pP⟩, hl, nL, nS, nR, nB, nP, nl, na⟩ := l
  have pv : ∀ {v : V} {p : List Nat}, PathV H v p → PathV H2 v p := fun ⟨q, hv, hq⟩ => ⟨q, hv, ht _ _ hq⟩
  exact ⟨dx, fs, L, S, R, B, Pm, l0, ys, ss, rs, ps, bs, hk _ _ na ha fun _ _ _ _ => rfl, lk, ⟨hk _ _ nL hL fun _ _ _ q => (nomatch q), Paired.mapP pL fun _ _ q => pv q⟩, ⟨hk _ _ nS hS fun _ _ _ q => (nomatch q), Paired.mapP pS fun _ _ q => q.imp hr⟩, ⟨hk _ _ nR hR fun _ _ _ q => (nomatch q), Paired.mapP pR fun _ _ q => pv q⟩, ⟨hk _ _ nB hB fun _ _ _ q => (nomatch q), Paired.mapP pB fun _ _ q => q.imp hr⟩, ⟨hk _ _ nP hP fun _ _ _ q => (nomatch q), Paired.mapP pP fun _ _ q => q.imp hr⟩, hk _ _ nl hl fun _ _ _ q => (nomatch q), h0 _ _ nL hL, h0 _ _ nS hS, h0 _ _ nR hR, h0 _ _ nB hB, h0 _ _ nP hP, h0 _ _ nl hl, h0 _ _ na ha⟩
theorem LayF.mono {a b : Addr} {rows : List Row} (e : Ex H H') (l : LayF K H0 a b rows H) : LayF K H0 a b rows H' := l.imp (fun z u _ h _ => e _ _ h) (fun z xs h => e _ _ h) (fun z u h _ => h) (fun v t r => r.mono e)
theorem LayF.exi {a b o : Addr} {rows : List Row} (hi : IsIns H o) (n : a ≠ o) (e : ExO o H H') (l : LayF K H0 a b rows H) : LayF K H0 a b rows H' := l.imp (fun z u _ h hu => e _ _ (fun q => by
  obtain ⟨C, dx, fs, hi⟩ := hi
  rw [q, hi] at h
  exact n (hu C dx fs (Option.some.inj h).symm ▸ q)) h) (fun z xs h => e.at hi h fun _ _ _ q => nomatch q) (fun z u h _ => h) (fun v t r => r.exi hi e)
theorem LayF.exo {a b o : Addr} {acc : List V} {rows : List Row} (h0 : H0 o ≠ none) (ho : H o = some (.lst acc)) (e : ExO o H H') (l : LayF K H0 a b rows H) : LayF K H0 a b rows H' := l.imp (fun z u n h _ => e _ _ (fun q => h0 (q ▸ n)) h) (fun z xs h => e _ _ (fun q => by rw [q, ho] at h; cases h) h) (fun z u h _ => h) (fun v t r => r.exo h0 ho e)
theorem LayF.avoid {a b p : Addr} {o : HO} {rows : List Row} (hp : H p = none) (l : LayF K H0 a b rows H) : LayF K (upd H0 p o) a b rows H := l.imp (fun z u _ h _ => h) (fun z xs h => h) (fun z u n h => by rw [upd_ne (fun q => by rw [q, hp] at h; cases h)]; exact n) (fun v t r => r.avoid' hp)
theorem LayF.rebase {a b : Addr} {H1 : Hp} {rows : List Row} (d : Dm H1 H0) (l : LayF K H0 a b rows H) : LayF K H1 a b rows H := l.imp (fun z u _ h _ => h) (fun z xs h => h) (fun z u n _ => d z n) (fun v t r => r.base d)
def progNames : List Str := ["block", "paths", "codes", "body"]
/-- a program: its block and its layout, new against H0 -/
def PrgF (K : PySem.W.Frag) (H0 : Hp) (a : Addr) (ts : List Th) (H : Hp) : Prop := ∃ dx fs b l, H a = some (.ins (progC K) dx fs) ∧ (fs.lookup ("_top" : Str) = some (.ref b) ∧ fs.lookup ("layout" : Str) = some (.ref l) ∧ ∀ f ∈ progNames, fs.lookup f = none) ∧ RepN K H0 H (.ref b) (.lst ts) ∧ LayF K H0 l b (surveyT ts).1 H ∧ H0 a = none ∧ l ≠ a
theorem PrgF.mono {a : Addr} {ts : List Th} (e : Ex H H') (q : PrgF K H0 a ts H) : PrgF K H0 a ts H' := by
  obtain ⟨dx, fs, b, l, h1, h2, h3, h4, h5, h6⟩ := q
  exact ⟨dx, fs, b, l, e _ _ h1, h2, h3.mono e, h4.mono e, h5, h6⟩
theorem PrgF.exo {a o : Addr} {acc : List V} {ts : List Th} (h0 : H0 o ≠ none) (ho : H o = some (.lst acc)) (e : ExO o H H') (q : PrgF K H0 a ts H) : PrgF K H0 a ts H' := by
  obtain ⟨dx, fs, b, l, h1, h2, h3, h4, h5, h6⟩ := q
  exact ⟨dx, fs, b, l, e _ _ (fun z => h0 (z ▸ h5)) h1, h2, h3.exo h0 ho e, h4.exo h0 ho e, h5, h6⟩
theorem PrgF.avoid {a p : Addr} {o : HO} {ts : List Th} (hp : H p = none) (q : PrgF K H0 a ts H) : PrgF K (upd H0 p o) a ts H := by
  obtain ⟨dx, fs, b, l, h1, h2, h3, h4, h5, h6⟩ := q
  exact ⟨dx, fs, b, l, h1, h2, h3.avoid' hp, h4.avoid hp, by rw [upd_ne (fun z => by rw [z, hp] at h1; cases h1)]; exact h5, h6⟩
theorem PrgF.rebase {a : Addr} {H1 : Hp} {ts : List Th} (d : Dm H1 H0) (q : PrgF K H0 a ts H) : PrgF K H1 a ts H := by
  obtain ⟨dx, fs, b, l, h1, h2, h3, h4, h5, h6⟩ := q
  exact ⟨dx, fs, b, l, h1, h2, h3.base d, h4.rebase d, d _ h5, h6⟩
def SpProgF (K : PySem.W.Frag) : Sp := fun vs H Q E => ∃ a dx x t H0, vs = [.ref a, x] ∧ H a = some (.ins (progC K) dx []) ∧ Dm H0 H ∧ H0 a = none ∧ Rep K H x t ∧ Adm t ∧ dpT t < 60 ∧ (progM t = none → ((surveyT (elems t)).1.map (·.p)).Nodup ∧ ∀ H', ExO a H H' → PrgF K H0 a (elems t) H' → Q .non H') ∧
  (∀ p, progM t = some p → ∀ q d H', ExO a H H' → H d = none → H' q = some (.tup (pV p)) → H' d = some (.xd [(("path" : Str), .ref q)]) → E (.ref (noP K)) (some d) H')
theorem mk_no {E : XK} {p : List Nat} (h : EvR ta σ H (fun v H' => ∃ q, v = .ref q ∧ H' q = some (.tup (pV p)))) (kb : ∀ q d H', Ex H H' → H d = none → H' q = some (.tup (pV p)) → H' d = some (.xd [(("path" : Str), .ref q)]) → E (.ref (noP K)) (some d) H') :
    tMkO (noP K) (SpNo K) [] (tCons ta tNil) σ H E := by
  unfold tMkO tCons tNil
  refine h H (Ex.refl H) _ fun v H4 e4 ⟨q, hv, hq⟩ => ⟨by simp, fun a2 ha2 => ?_⟩
  subst hv
  refine ⟨a2, .ref q, rfl, upd_same, fun dx2 hd2 hne2 => ?_⟩
  have hd4 : H4 dx2 = none := by
    rw [upd_ne hne2] at hd2
    exact hd2
  refine ⟨rfl, dx2, [(("path" : Str), .ref q)], upd_same, by rw [upd_ne hne2, upd_same], hd4, ?_⟩
  have nn : ∀ z u, H4 z = some u → (upd (del (upd (upd (upd H4 a2 (exo a2 (noP K) none)) dx2 (exd dx2 [(("path" : Str), .ref q)])) a2 (exo a2 (noP K) (some dx2))) a2) dx2 (.xd [(("path" : Str), .ref q)])) z = some u := fun z u hz => by
    have n1 : z ≠ a2 := fun zz => by rw [zz, ha2] at hz; cases hz
    have n2 : z ≠ dx2 := fun zz => by rw [zz, hd4] at hz; cases hz
    rw [upd_ne n2, del_ne n1, upd_ne n1, upd_ne n2, upd_ne n1]
    exact hz
  exact kb q dx2 _ (fun z u hz => nn z u (e4 _ _ hz)) (fresh_back e4 hd4) (nn _ _ hq) upd_same
theorem er_tup0 : EvR (tTup tNil) σ H (fun v H' => ∃ q, v = .ref q ∧ H' q = some (.tup (pV []))) := fun H1 e Q q => eu_tup (σ := σ) (H := H1) ea_nil (by decide) H1 (Ex.refl _) _ fun p H2 _ e2 h2 => q _ H2 e2 ⟨p, rfl, h2⟩
theorem er_layoutF {E : XK} {b : Addr} {xs : List V} {ts : List Th} (h : Ev ta σ H (.ref b)) (hb : H b = some (.lst xs)) (dm : Dm H0 H) (rs : RepsN K H0 H xs ts) (ad : Adm (.lst ts)) (good : (surveyT ts).2 = none) (nd : ((surveyT ts).1.map (·.p)).Nodup) : EvR (tMake (He.ga K "Layout") (SpLayF K) [] E (tCons ta tNil)) σ H (fun v H' => ∃ l, v = .ref l ∧ H l = none ∧ LayF K H0 l b (surveyT ts).1 H') := fun H1 e Q q =>
  ea_cons h ea_nil H1 e _ fun H2 e2 => fun a dx ha hd hne => by
    have e3 : Ex H2 (upd (upd H2 dx (.own a)) a (.ins (He.ga K "Layout") dx [])) := ((Ex.new hd).mut ha)
    have dm2 := dm.trans' (Dm.of (e.trans e2))
    refine ⟨a, dx, b, xs, ts, H0, rfl, upd_same, e3 _ _ ((e.trans e2) _ _ hb), dm2.trans' (Dm.of e3), dm2 _ ha, rs.mono ((e.trans e2).trans e3), ad, good, nd, fun H' x4 hO => ⟨rfl, q _ H' (e2.trans fun z u hz => ?_) ⟨a, rfl, fresh_back (e.trans e2) ha, hO⟩⟩⟩
    have nz : z ≠ a := fun zz => by rw [zz, ha] at hz; cases hz
    exact x4 z u nz (e3 _ _ hz)
theorem f_programF (z : Cz w K mg) : ∃ fd ps, FnOk P w K mg base (L2.CX P w) 63 (He.ma K (progC K) "__init__") fd ps (SpProgF K) ∧ Binds K fd ps [] := by
  have c_survey := f_surveyG (P := P) (base := base) z
  have c_fresh := f_fresh (P := P) (base := base) z 60
  have m_Layout := f_layoutF (P := P) (base := base) z
  obtain ⟨fdN, psN, FN, bN⟩ := f_noprogram (P := P) (base := base) z
  obtain ⟨fd, F, b⟩ := z.fn_Program_init
  refine ⟨fd, _, F.ok (k := 62) K0.c_Program_init (fun vs H Q E h => ?_) (fun cdv A outer s H vs Q E hr h => ?_), b⟩
  · obtain ⟨a, dx, x, t, H0, rfl, _⟩ := h
    rfl
  · obtain ⟨a, dx, x, t, H0, rfl, ha, dm, h0a, r, ad, hdp, kg, kb⟩ := h
    refine ⟨_, (pss_cons (ps_if (PW.pt (pw_or (pt_not (pt_val (pe_callB call_isi (by rfl) z.free_isinstance boot_isinstance (pa_cons (pv 1) (pa_cons (pe_bty (T := "list") z.free_list (by decide +kernel)) pa_nil))))) (pw_or1 (pt_cmpR op_gt (pe_callB call_len_seq (by rfl) z.free_len PySem.boot_len (pa_cons (pv 1) pa_nil)) (pe_gi z.int_MOST_IN_BLOCK) (nomark _))))) (pss_one (ps_raise rfl (takes_of rfl rfl rfl rfl) (pmk_oex z.oex_NoProgram z.exini_NoProgram z.exfun_NoProgram FN (hr.mono (by decide)) bN .nil pass0 (by rfl) z.glo_NoProgram (pa_cons (pe_tup pa_nil) pa_nil)))) pss_nil)
      (pss_cons (ps_asg (pe_c c_survey hr (by first | decide | omega) (by rfl) (pa_cons (pv 1) pa_nil)) (show PG _ _ (gTup K 2 (gCons (gName 2) (gCons (gName 3) gNil))) from by refine pg_tup rfl (pgs_cons ?g0 (pgs_cons ?g1 pgs_nil)); (case g0 => exact (pg_name (i := 2) K0.c_Program_init.nd rfl (.inl rfl))); (case g1 => exact (pg_name (i := 3) K0.c_Program_init.nd rfl (.inl rfl)))))
      (pss_cons (ps_if (pt_cmpR op_notN (pv 3) pe_non (nomark _)) (pss_one (ps_raise rfl (takes_of rfl rfl rfl rfl) (pmk_oex z.oex_NoProgram z.exini_NoProgram z.exfun_NoProgram FN (hr.mono (by decide)) bN .nil pass0 (by rfl) z.glo_NoProgram (pa_cons (pv 3) pa_nil)))) pss_nil)
      (pss_cons (ps_fld (pv 0) (pe_c c_fresh hr (by first | decide | omega) (by rfl) (pa_cons (pv 1) pa_nil)) rfl)
      (pss_one (ps_fld (pv 0) (pe_mkr m_Layout hr (by first | decide | omega) (by rfl) (pa_cons (pe_fld (pv 0) rfl) pa_nil)) rfl)))))), ?_⟩
    have eL := isB_list t
    cases t with
    | lst ts =>
      cases r with
      | lst hb rs =>
        rename_i b xs
        have hxl := rs.length
        refine q_when (b := decide (12 < ts.length)) (et_is (et_or (et_not (et_B (ev_isi tys_list (ev_var rfl) (Rep.lst hb rs)))) fun _ => et_test (ev_op (ev_lenL (ev_var rfl) (sq_of hb)) ev_c rv_I0)) ?_) (fun hh H1 e1 => ?_) (fun hh H1 e1 => ?_)
        · rw [eL, hxl]
          show (false || decide (12 < ((ts.length : Nat) : Int))) = _
          rw [Bool.false_or]
          exact decide_eq_decide.mpr (by omega)
        · have hp : progM (.lst ts) = some [] := by
            show (if ts.length ≤ 12 then _ else _) = _
            rw [if_neg (by have := of_decide_eq_true hh; omega)]
          exact mk_no (p := []) (er_tup0) fun q d H' e hd hq hx => kb [] hp q d H' (ExO.of (e1.trans e)) (fresh_back e1 hd) hq hx
        · have hp : progM (.lst ts) = (surveyT ts).2 := by
            show (if ts.length ≤ 12 then _ else _) = _
            rw [if_pos (by have := of_decide_eq_false hh; omega)]
          rw [hp] at kg kb
          refine q_rg (er_surveyF (ev_var rfl) (e1 _ _ hb) (Ex.refl _) (rs.mono e1) ad) fun v H2 e2 ⟨pp, F2, pv, fvs, hv, _, _, hpp, _, _, hpv⟩ => ?_
          subst hv
          refine g_pair hpp ?_
          show tSeq _ _ _ [some (.ref a), some (.ref b), some (.ref F2), some pv] H2
          cases hsv : (surveyT ts).2 with
          | none =>
            rw [hsv] at hpv kg
            have hpv : pv = .non := hpv
            subst hpv
            refine q_when (b := false) (et_is (et_test (ev_op (ev_var rfl) ev_c rv_notN)) rfl) (fun hh => nomatch hh) (fun _ H3 e3 => ?_)
            have e13 := (e1.trans e2).trans e3
            refine q_fld (er_fresh (t := .lst ts) (d := 60) (ev_var rfl) (Rep.lst (e13 _ _ hb) (rs.mono e13)) ad hdp) (ev_var rfl) (e13 _ _ ha) z.cls_Program z.noat_Program__top (by decide) fun y H4 H5 e4 ry e5 => ?_
            have e15 := (e13.trans e4).trans e5
            have ia5 : IsIns H5 a := ⟨_, _, _, e15 _ _ ha⟩
            have ry5 := ((ry.mono e5).base (dm.trans' (Dm.of e13)))
            obtain ⟨nd, kg⟩ := kg rfl
            cases ry5 with
            | lst nL hL rs5 =>
              rename_i b5 vs5
              have x6 : ExO a H5 (upd H5 a (.ins (progC K) dx (putF "_top" (.ref b5) []))) := (ExO.of (Ex.refl _)).upd
              have a6 : (upd H5 a (.ins (progC K) dx (putF "_top" (.ref b5) []))) a = some (.ins (progC K) dx (putF "_top" (.ref b5) [])) := upd_same
              generalize upd H5 a (.ins (progC K) dx (putF "_top" (.ref b5) [])) = H6 at x6 a6
              have n6 := putF_le "_top" (.ref b5) []
              have dm6 : Dm H0 H6 := fun z hz => (dm.trans' (Dm.of e15)) z (by
                cases hh : H5 z with
                | none => rfl
                | some o =>
                  by_cases zz : z = a
                  · rw [zz, a6] at hz
                    cases hz
                  · rw [x6 z o zz hh] at hz
                    cases hz)
              have rs6 := RepsN.exi ia5 x6 rs5
              have hL6 := x6.at ia5 hL fun _ _ _ q => nomatch q
              refine r_fld (D := { nx := _, rt := _ }) (er_layoutF (H0 := H0) (b := b5) (ev_fld (ev_var rfl) a6 z.cls_Program z.noat_Program__top (by rw [lookup_putF, if_pos rfl])) hL6 dm6 rs6 ad hsv nd) (ev_var rfl) a6 z.cls_Program z.noat_Program_layout (by simp only [List.length_nil] at n6; omega) fun y7 H7 H8 e7 ⟨l7, hy7, hl7, hO7⟩ e8 => ?_
              subst hy7
              have nla : l7 ≠ a := fun zz => by rw [zz, a6] at hl7; cases hl7
              have ia8 : IsIns H8 a := ⟨_, _, _, (e7.trans e8) _ _ a6⟩
              have x9 : ExO a H8 (upd H8 a (.ins (progC K) dx (putF "layout" (.ref l7) (putF "_top" (.ref b5) [])))) := (ExO.of (Ex.refl _)).upd
              refine kg _ ((((ExO.of e15).trans x6).trans (ExO.of (e7.trans e8))).upd) ⟨dx, _, b5, l7, upd_same, ⟨by rw [lookup_putF, if_neg (by decide), lookup_putF, if_pos rfl], by rw [lookup_putF, if_pos rfl], fun f hf => ?_⟩, ?_, (hO7.mono e8).exi ia8 nla x9, h0a, nla⟩
              · rw [lookup_putF, if_neg, lookup_putF, if_neg]
                · rfl
                · rintro rfl
                  revert hf
                  decide
                · rintro rfl
                  revert hf
                  decide
              · exact (RepN.mono (e7.trans e8) (.lst nL hL6 rs6)).exi ia8 x9
          | some path =>
            rw [hsv] at hpv kb
            obtain ⟨q, hpv, hq⟩ := hpv
            subst hpv
            refine q_when (b := true) (et_is (et_test (ev_op (ev_var rfl) ev_c rv_notN)) rfl) (fun _ H3 e3 => ?_) (fun hh => nomatch hh)
            have e13 := (e1.trans e2).trans e3
            exact mk_no (p := path) ((EvR.of (ev_var rfl)).imp fun v H9 e9 hv => ⟨q, hv, (e3.trans e9) _ _ hq⟩) fun q2 d H' e hd hq2 hx => kb path rfl q2 d H' (ExO.of (e13.trans e)) (fresh_back e13 hd) hq2 hx
    | _ =>
      refine q_when (b := true) (et_is (et_or (a := !isB "list" _) (b := true) (et_not (et_B (ev_isi tys_list (ev_var rfl) r))) fun hh => by rw [eL] at hh; cases hh) (by rw [eL]; rfl)) (fun hh H1 e1 => ?_) (fun hh => nomatch hh)
      exact mk_no (p := []) (er_tup0) fun q d H' e hd hq hx => kb [] rfl q d H' (ExO.of (e1.trans e)) (fresh_back e1 hd) hq hx
end
end K0
/-! ## K3A -/
set_option Elab.async false
set_option linter.all false
set_option maxRecDepth 100000
set_option maxHeartbeats 4000000
namespace K0
open PySem PySem.Spec PyProof.Rows L2 Evl RZ KB
/-! drawn signs, joined: which signs -/
theorem joinL_ones : ∀ cs : List Nat, TL.joinL [] (cs.map fun c => [c]) = cs
  | [] => rfl
  | [c] => rfl
  | c :: d :: r => by
    show [c] ++ ([] ++ TL.joinL [] ((d :: r).map fun c => [c])) = c :: d :: r
    rw [joinL_ones (d :: r)]
    rfl
theorem join_ones (cs : List Nat) : Txt.join "" (cs.map fun c => (⟨#[c]⟩ : Str)) = ⟨cs.toArray⟩ := by
  have h := SX.join_S [] (cs.map fun c => [c])
  rw [joinL_ones, List.map_map] at h
  exact h
section
variable {K : PySem.W.Frag} {σ : L2.St} {H H' : Hp} {ta tb tk : TE}
theorem x_signV {E : XK} {s : Addr} {sc : Sc} {m : Int} {z : Str} {te : TE} (hl : Ev te σ H (.str z)) (h0 : Ev ta σ H (.ref s)) (h1 : Ev tb σ H (.int m)) (S : SrcAt H s sc) (hm : m = (z.length : Nat)) (m0 : 0 < m) (hz : z.length ≤ 100000) :
    EvX (tOp rIxS te (tCall (SpDraw K) [] E (tCons ta (tCons tb tNil)))) σ H (fun v H' => (∃ c, v = .str ⟨#[c]⟩ ∧ c ∈ z.cps.toList) ∧ Dr s sc H H') := fun Q q => hl H (Ex.refl H) _ fun H1 e1 => by
  refine (x_draw (K := K) (h0.mono e1) (h1.mono e1) (S.mono e1) m0 (by omega)) _ fun v H2 ⟨d, hv, d0, d1, dr⟩ => ?_
  have hzl : z.length = z.cps.toList.length := by simp [Str.length]
  obtain ⟨c, hc, hcm⟩ := atI_some (xs := z.cps.toList) d0 (by omega)
  exact ⟨z, d, c, rfl, hv, sz_of hz, hc, q _ H2 ⟨⟨c, rfl, hcm⟩, (Dr.of S e1).trans dr⟩⟩
theorem x_joinV {E : XK} {s : Addr} {sc : Sc} {n : Nat} {m : Int} {z : Str} {tz : TE} {j : Nat} {vs : List Nat} (h0 : ∀ σ2 H2, wipe σ2 vs = wipe σ vs → Ev ta σ2 H2 (.ref s)) (hzv : ∀ σ2 H2, wipe σ2 vs = wipe σ vs → Ev tz σ2 H2 (.str z)) (hn : EvX tk σ H (fun v H' => v = .int (n : Nat) ∧ Dr s sc H H')) (hw : ∀ x, wipe ((wipe σ vs).set j (some x)) vs = wipe σ vs) (hm : m = (z.length : Nat)) (m0 : 0 < m) (hz : z.length ≤ 100000) (hl : n ≤ 1000) :
    EvX (tM1 (fun x xs H Q => ∃ a p, ∃ ys : List Str, x = .str a ∧ xs = [.ref p] ∧ (SqL K H p (ys.map V.str) ∨ SqT K H p (ys.map V.str)) ∧ (ys.map (·.length)).sum + ys.length * a.length ≤ 16777216 ∧ Q (.str (Txt.join a ys)) H) (tC (.str ""))
      (tLc (iRng1 (tCons tk tNil)) (gName j) tYes (tOp rIxS tz (tCall (SpDraw K) [] E (tCons ta (tCons (tC (.int m)) tNil)))) vs)) σ H (fun v H' => ∃ cs : List Nat, v = .str ⟨cs.toArray⟩ ∧ cs.length = n ∧ (∀ c ∈ cs, c ∈ z.cps.toList) ∧ Dr s sc H H') := fun Q q => by
  refine ⟨⟨_, rfl⟩, ?_⟩
  refine hn _ fun v H1 ⟨hv, r1⟩ => ⟨(n : Nat), by rw [hv], by omega, by omega, fun Dl hD => ?_⟩
  have S1 := r1.2
  have nD : Dl ≠ s := fun zz => S1.some (zz ▸ hD)
  have nSc : Dl ≠ sc.a := fun zz => by
    obtain ⟨cs, i, c, st, n, no, ma, _, h2, _⟩ := S1
    rw [← zz, hD] at h2
    cases h2
  rw [Int.toNat_natCast]
  refine lc_it (walk_range (lo := 0) (n := n)) (fun i H' => ExO s H1 H' ∧ SrcAt H' s sc ∧ ∃ cs : List Nat, H' Dl = some (.lst (cs.map fun c => V.str ⟨#[c]⟩)) ∧ cs.length = i ∧ ∀ c ∈ cs, c ∈ z.cps.toList) ⟨ExO.of (Ex.new hD), S1.mono (Ex.new hD), [], upd_same, rfl, fun y hy => nomatch hy⟩ (fun i H' _ p => trivial) ?_ (fun H' p => ?_)
  · rintro i x H2 H3 hlt ⟨p1, p2, cs, p3, p4, p5⟩ ⟨rfl, rfl⟩
    refine ⟨hw _, ?_⟩
    show tOp rIxS tz (tCall (SpDraw K) [] E (tCons ta (tCons (tC (.int m)) tNil))) _ H3 _
    refine (x_signV (K := K) (hzv _ H3 (hw _)) (h0 _ H3 (hw _)) ev_c p2 hm m0 hz) _ fun v H4 ⟨⟨c, hc, hcm⟩, dr⟩ => ?_
    subst hc
    have h4 := dr.at p3 nD
    refine ⟨_, h4, sz_lt (by rw [List.length_map]; omega), (p1.trans dr.1).mut hD, dr.2.updD nD nSc, cs ++ [c], by rw [upd_same, List.map_append]; rfl, by rw [List.length_append, p4]; rfl, fun y hy => ?_⟩
    rcases List.mem_append.mp hy with hy | hy
    · exact p5 y hy
    · rw [List.mem_singleton.mp hy]
      exact hcm
  · obtain ⟨p1, p2, cs, p3, p4, p5⟩ := p
    have hones : ∀ y ∈ cs.map (fun c => (⟨#[c]⟩ : Str)), y.length = 1 := fun y hy => by
      obtain ⟨c, _, rfl⟩ := List.mem_map.mp hy
      rfl
    have hs := sum_ones _ hones
    refine ⟨"", Dl, cs.map fun c => ⟨#[c]⟩, rfl, rfl, .inl (sq_of (by rw [p3, List.map_map]; rfl)), by rw [hs, List.length_map, p4, show ("" : Str).length = 0 from rfl]; omega, ?_⟩
    rw [join_ones]
    exact q _ H' ⟨cs, rfl, p4, p5, r1.1.trans p1, p2⟩
end
end K0
/-! ## K3B -/
set_option Elab.async false
set_option linter.all false
set_option maxRecDepth 100000
set_option maxHeartbeats 4000000
namespace K0
open PySem PySem.Spec PyProof.Rows L2 Evl RZ KB
theorem name_sx : ∀ w ∈ v_WORDS, ∀ c ∈ ("sx" : Str).cps.toList, nameB (w ++ ⟨#[c]⟩) = true := by
  have h : (v_WORDS.all fun w => ("sx" : Str).cps.toList.all fun c => nameB (w ++ ⟨#[c]⟩)) = true := by decide +kernel
  exact fun w hw c hc => List.all_eq_true.mp (List.all_eq_true.mp h w hw) c hc
theorem name_s : ∀ w ∈ v_WORDS, nameB (w ++ "s") = true := by
  have h : (v_WORDS.all fun w => nameB (w ++ "s")) = true := by decide +kernel
  exact fun w hw => List.all_eq_true.mp h w hw
theorem mem_words {y : Str} (h : inV (.str y) (v_WORDS.map V.str) = true) : y ∈ v_WORDS := by
  obtain ⟨u, hu, he⟩ := List.any_eq_true.mp h
  obtain ⟨w, hw, rfl⟩ := List.mem_map.mp hu
  have he : (w == y) = true := he
  rw [← beq_iff_eq.mp he]
  exact hw
theorem name_cs {cs : List Nat} {n : Nat} (hl : cs.length = n) (hn : 1 ≤ n ∧ n ≤ 8) (hz : ∀ c ∈ cs, c ∈ ("abcdefghijklmnopqrstuvwxyz" : Str).cps.toList) (hw : inV (.str ⟨cs.toArray⟩) (v_WORDS.map V.str) = false) : nameB ⟨cs.toArray⟩ = true := by
  have h1 : (⟨cs.toArray⟩ : Str).length = n := by
    show cs.toArray.size = n
    rw [List.size_toArray]
    exact hl
  unfold nameB
  rw [h1, hw, decide_eq_true hn.1, decide_eq_true hn.2]
  simp only [Bool.true_and, Bool.not_false, Bool.and_true]
  exact List.all_eq_true.mpr fun c hc => decide_eq_true (hz c (by simpa using hc))
section
variable {P : Program} {w : World} {K : PySem.W.Frag} {mg : Str → Option Value} {base : Heap} {σ : L2.St} {H H' H0 : Hp} {ta tb tc td te tl tv tk to : TE} {x y kv : V} {X0 : XK} {tu tz : TS} {D : Ends} {g : TG} {R : V → Hp → Prop}
/-- a drawn name is a name -/
def SpNameV (K : PySem.W.Frag) : Sp := fun vs H Q _ => ∃ s sc, vs = [.ref s] ∧ SrcAt H s sc ∧ ∀ (z : Str) H', nameB z = true → Dr s sc H H' → Q (.str z) H'
theorem f_nameV (z : Cz w K mg) : Cl P w K mg base 2 "_law_name" (SpNameV K) := by
  have c__law_draw := f_draw (P := P) (base := base) z
  have c__law_words := f_words (P := P) (base := base) z
  refine cal_of (k := 1) z.fn__law_name z.glo__law_name K0.c__law_name (fun vs H Q E h => ?_) (fun cdv A outer s H vs Q _ hr h => ?_)
  · obtain ⟨s, sc, rfl, _⟩ := h
    rfl
  · obtain ⟨s, sc, rfl, S, k⟩ := h
    refine ⟨_, (pss_cons (ps_set (i := 1) K0.c__law_name.nd rfl (.inl rfl) (pe_c c__law_draw hr (by first | decide | omega) (by rfl) (pa_cons (pv 0) (pa_cons pe_int pa_nil))))
      (pss_cons (ps_if (pt_cmpR op_lt (pv 1) pe_int (nomark _)) (pss_one (ps_ret (pe_ix (show IxR _ (rIxL K) from ix_list) (pe_lst (pa_cons pe_str (pa_cons pe_str (pa_cons pe_str (pa_cons pe_str (pa_cons pe_str (pa_cons pe_str pa_nil))))))) (pe_c c__law_draw hr (by first | decide | omega) (by rfl) (pa_cons (pv 0) (pa_cons pe_int pa_nil))) (fun _ _ => rfl)))) pss_nil)
      (pss_cons (ps_if (pt_cmpR op_eq (pv 1) pe_int (nomark _)) (pss_cons (ps_set (i := 2) K0.c__law_name.nd rfl (.inl rfl) (pe_c0 c__law_words hr (by first | decide | omega) (by rfl)))
      (pss_one (ps_ret (pe_op op_add_str (pe_ix (show IxR _ (rIxL K) from ix_list) (pv 2) (pe_c c__law_draw hr (by first | decide | omega) (by rfl) (pa_cons (pv 0) (pa_cons (pe_callB call_len_seq (by rfl) z.free_len PySem.boot_len (pa_cons (pv 2) pa_nil)) pa_nil))) (fun _ _ => rfl)) (pe_ix ix_str pe_str (pe_c c__law_draw hr (by first | decide | omega) (by rfl) (pa_cons (pv 0) (pa_cons pe_int pa_nil))) (fun _ _ => rfl)))))) pss_nil)
      (pss_cons (ps_set (i := 3) K0.c__law_name.nd rfl (.inl rfl) (pe_op op_add pe_int (pe_c c__law_draw hr (by first | decide | omega) (by rfl) (pa_cons (pv 0) (pa_cons (pe_ix (show IxR _ (rIxL K) from ix_list) (pe_lst (pa_cons pe_int (pa_cons pe_int pa_nil))) (pe_op op_sub (pv 1) pe_int) (fun _ _ => rfl)) pa_nil)))))
      (pss_cons (ps_set (i := 4) K0.c__law_name.nd rfl (.inl rfl) (pe_join pe_str (pe_lc (own := [("_law_k", 5)]) rfl K0.c__law_name.nd (pi_range1 (by rfl) z.free_range (pa_cons (pv 3) pa_nil)) (blkOk_by (N := N__law_name) (sc := defScope s__law_name) (by decide +kernel)) (fun _ _ _ _ _ => (pg_name (i := 5) K0.c__law_name.nd rfl (.inl rfl))) (fun _ _ _ _ _ => pts_nil) (fun _ _ _ _ _ => (pe_ix ix_str pe_str (pe_c c__law_draw hr (by first | decide | omega) (by rfl) (pa_cons (pv 0) (pa_cons pe_int pa_nil))) (fun _ _ => rfl))))))
      (pss_cons (ps_if (pt_cmpR op_in_seq (pv 4) (pe_c0 c__law_words hr (by first | decide | omega) (by rfl)) (by rfl)) (pss_one (ps_ret (pe_op op_add_str (pv 4) pe_str))) pss_nil)
      (pss_one (ps_ret (pv 4))))))))), ?_⟩
    refine EvX.q_asg (x_draw (ev_var rfl) ev_c S (by decide) (by decide)) fun v H1 ⟨d, hv, d0, d1, r1⟩ => ?_
    subst hv
    refine q_when (b := decide (d < 2)) (et_test (ev_op (ev_var rfl) ev_c rv_I0)) (fun hb H2 e2 => ?_) (fun hb H2 e2 => ?_)
    · refine EvX.ret (x_pick (el_lst (ea_cons ev_c (ea_cons ev_c (ea_cons ev_c (ea_cons ev_c (ea_cons ev_c (ea_cons ev_c ea_nil)))))) (by decide)) (ev_var rfl) ev_c (r1.2.mono e2) rfl (by decide) (by decide)) fun v H3 ⟨hm, r3⟩ => ?_
      have hr := (r1.trans (Dr.of r1.2 e2)).trans r3
      simp only [List.mem_cons, List.not_mem_nil, or_false] at hm
      rcases hm with rfl | rfl | rfl | rfl | rfl | rfl <;> exact k _ H3 (by decide +kernel) hr
    refine q_when (b := decide (d = 4)) (et_test (ev_op (ev_var rfl) ev_c rv_iEq)) (fun hb4 H3 e3 => ?_) (fun hb4 H3 e3 => ?_)
    · have r3 := r1.trans (Dr.of r1.2 (e2.trans e3))
      refine q_rasg er_words fun v H4 e4 ⟨p, hv, hp, h4⟩ => ?_
      subst hv
      have r4 := r3.trans (Dr.of r3.2 e4)
      have np : p ≠ s := fun zz => r3.2.some (zz ▸ hp)
      refine EvX.ret (EvX.op (R := fun v H' => ∃ z : Str, v = .str z ∧ nameB z = true ∧ Dr s sc H H') (R2 := fun _ v H' => (∃ c, v = .str ⟨#[c]⟩ ∧ c ∈ ("sx" : Str).cps.toList) ∧ Dr s sc H H') (x_pickV (m := 30) (ev_var rfl) h4 np (ev_var rfl) (ev_is (ev_lenL (ev_var rfl) (sq_of h4)) (by rw [List.length_map]; rfl)) r4.2 rfl (by decide) (by decide)) (fun x H5 r5 => (x_signV (m := 2) (z := "sx") ev_c (ev_var rfl) ev_c r5.2.2 rfl (by decide) (by decide)).imp fun v H6 ⟨h1, h2⟩ => ⟨h1, (r4.trans r5.2).trans h2⟩) fun x H5 y H6 ⟨hx, r5⟩ ⟨⟨c, hc, hcm⟩, r6⟩ Q6 q6 => ?_) fun v H7 ⟨z7, hz7, hl7, r7⟩ => ?_
      · obtain ⟨wd, hwd, rfl⟩ := List.mem_map.mp hx
        have hl := words_len wd hwd
        subst hc
        exact ⟨wd, ⟨#[c]⟩, rfl, rfl, sz_of (by show wd.length + 1 ≤ _; omega), q6 _ _ ⟨_, rfl, name_sx wd hwd c hcm, r6⟩⟩
      · subst hz7
        exact k z7 H7 hl7 r7
    · have n2 : ¬ d < 2 := of_decide_eq_false hb
      have n4 : ¬ d = 4 := of_decide_eq_false hb4
      have r3 := r1.trans (Dr.of r1.2 (e2.trans e3))
      have hd : d = 2 ∨ d = 3 := by omega
      refine EvX.q_asg (R := fun v H' => ∃ n : Nat, v = .int (n : Nat) ∧ (1 ≤ n ∧ n ≤ 8) ∧ Dr s sc H H') (fun Q9 q9 => ?_) fun v H4 ⟨n, hv, hn, r4⟩ => ?_
      · refine (EvX.op (R2 := fun _ v H' => ∃ n : Nat, v = .int (n : Nat) ∧ n < 8 ∧ Dr s sc H H') (tb := tCall (SpDraw K) [] E0 (tCons (tVar 0) (tCons (tOp (rIxL K) (tLst (tCons (tC (.int 3)) (tCons (tC (.int 8)) tNil))) (tOp (rI0 fun i j => .int (i - j)) (tVar 1) (tC (.int 2)))) tNil))) (EvX.of ev_c) (fun x H5 ⟨hx, e5⟩ => ?_) fun x H5 y H6 ⟨hx, e5⟩ hy Q6 q6 => ?_) Q9 q9
        · have r5 := r3.trans (Dr.of r3.2 e5)
          rcases hd with rfl | rfl
          · refine (x_draw (m := 3) (ev_var rfl) (ev_opL1 (el_lst (ea_cons ev_c (ea_cons ev_c ea_nil)) (by decide)) (fun H9 _ => ev_op (ev_var rfl) ev_c rv_I0) fun p H9 hp _ => rv_ixL (sq_of hp) rfl) r5.2 (by decide) (by decide)).imp fun v H6 ⟨d, hv, d0, d1, r6⟩ => ⟨d.toNat, by rw [hv, Int.toNat_of_nonneg d0], by omega, r5.trans r6⟩
          · refine (x_draw (m := 8) (ev_var rfl) (ev_opL1 (el_lst (ea_cons ev_c (ea_cons ev_c ea_nil)) (by decide)) (fun H9 _ => ev_op (ev_var rfl) ev_c rv_I0) fun p H9 hp _ => rv_ixL (sq_of hp) rfl) r5.2 (by decide) (by decide)).imp fun v H6 ⟨d, hv, d0, d1, r6⟩ => ⟨d.toNat, by rw [hv, Int.toNat_of_nonneg d0], by omega, r5.trans r6⟩
        · obtain ⟨n, hv, hn, r6⟩ := hy
          exact ⟨1, n, hx, hv, q6 _ _ ⟨n + 1, by show V.int (1 + (n : Int)) = V.int ((n + 1 : Nat) : Int); congr 1; omega, ⟨by omega, by omega⟩, r6⟩⟩
      · subst hv
        refine EvX.q_asg (x_joinV (n := n) (m := 26) (z := "abcdefghijklmnopqrstuvwxyz") (fun σ2 H2 hw => ev_var ?_) (fun σ2 H2 hw => ev_c) ((EvX.of (ev_var rfl)).imp fun v H9 h9 => ⟨h9.1, Dr.of r4.2 h9.2⟩) (fun x => rfl) rfl (by decide) (by decide) (by omega)) fun v H5 ⟨cs, hv, hcl, hcz, r5⟩ => ?_
        · have h9 : (wipe σ2 [5])[0]? = some (some (.ref s)) := by
            rw [show wipe σ2 [5] = _ from hw]
            rfl
          exact wipe_some2 h9
        · subst hv
          have r45 := r4.trans r5
          refine q_when (et_test (ev_inW (ev_var rfl))) (fun hin H6 e6 => ?_) (fun hin H6 e6 => ?_)
          · have hwm := mem_words hin
            refine s_ret (ev_op (ev_var rfl) ev_c (rv_addS (by have := words_len _ hwm; show _ + 1 ≤ _; omega))) fun H7 e7 => k _ H7 (name_s _ hwm) (r45.trans (Dr.of r45.2 (e6.trans e7)))
          · exact s_ret (ev_var rfl) fun H7 e7 => k _ H7 (name_cs hcl hn hcz hin) (r45.trans (Dr.of r45.2 (e6.trans e7)))
end
end K0
/-! ## K3C -/
set_option Elab.async false
set_option linter.all false
set_option maxRecDepth 100000
set_option maxHeartbeats 4000000
namespace K0
open PySem PySem.Spec PyProof.Rows L2 Evl RZ KB
section
variable {P : Program} {w : World} {K : PySem.W.Frag} {mg : Str → Option Value} {base : Heap} {σ : L2.St} {H H' H0 : Hp} {ta tb tc td te tl tv tk to : TE} {x y kv : V} {X0 : XK} {tu tz : TS} {D : Ends} {g : TG} {R : V → Hp → Prop}
theorem x_joinN {E : XK} {s : Addr} {sc : Sc} {N : Nat} {m : Int} {z : Str} {tz : TE} {j : Nat} {vs : List Nat} (h0 : ∀ σ2 H2, wipe σ2 vs = wipe σ vs → Ev ta σ2 H2 (.ref s)) (hzv : ∀ σ2 H2, wipe σ2 vs = wipe σ vs → Ev tz σ2 H2 (.str z)) (hn : EvX tk σ H (fun v H' => ∃ n : Nat, v = .int (n : Nat) ∧ n ≤ N ∧ Dr s sc H H')) (hw : ∀ x, wipe ((wipe σ vs).set j (some x)) vs = wipe σ vs) (hm : m = (z.length : Nat)) (m0 : 0 < m) (hz : z.length ≤ 100000) (hl : N ≤ 1000) :
    EvX (tM1 (fun x xs H Q => ∃ a p, ∃ ys : List Str, x = .str a ∧ xs = [.ref p] ∧ (SqL K H p (ys.map V.str) ∨ SqT K H p (ys.map V.str)) ∧ (ys.map (·.length)).sum + ys.length * a.length ≤ 16777216 ∧ Q (.str (Txt.join a ys)) H) (tC (.str ""))
      (tLc (iRng1 (tCons tk tNil)) (gName j) tYes (tOp rIxS tz (tCall (SpDraw K) [] E (tCons ta (tCons (tC (.int m)) tNil)))) vs)) σ H (fun v H' => ∃ cs : List Nat, v = .str ⟨cs.toArray⟩ ∧ cs.length ≤ N ∧ (∀ c ∈ cs, c ∈ z.cps.toList) ∧ Dr s sc H H') := fun Q q => by
  refine ⟨⟨_, rfl⟩, ?_⟩
  refine hn _ fun v H1 ⟨n, hv, hnN, r1⟩ => ⟨(n : Nat), by rw [hv], by omega, by omega, fun Dl hD => ?_⟩
  have S1 := r1.2
  have nD : Dl ≠ s := fun zz => S1.some (zz ▸ hD)
  have nSc : Dl ≠ sc.a := fun zz => by
    obtain ⟨cs, i, c, st, n, no, ma, _, h2, _⟩ := S1
    rw [← zz, hD] at h2
    cases h2
  rw [Int.toNat_natCast]
  refine lc_it (walk_range (lo := 0) (n := n)) (fun i H' => ExO s H1 H' ∧ SrcAt H' s sc ∧ ∃ cs : List Nat, H' Dl = some (.lst (cs.map fun c => V.str ⟨#[c]⟩)) ∧ cs.length = i ∧ ∀ c ∈ cs, c ∈ z.cps.toList) ⟨ExO.of (Ex.new hD), S1.mono (Ex.new hD), [], upd_same, rfl, fun y hy => nomatch hy⟩ (fun i H' _ p => trivial) ?_ (fun H' p => ?_)
  · rintro i x H2 H3 hlt ⟨p1, p2, cs, p3, p4, p5⟩ ⟨rfl, rfl⟩
    refine ⟨hw _, ?_⟩
    show tOp rIxS tz (tCall (SpDraw K) [] E (tCons ta (tCons (tC (.int m)) tNil))) _ H3 _
    refine (x_signV (K := K) (hzv _ H3 (hw _)) (h0 _ H3 (hw _)) ev_c p2 hm m0 hz) _ fun v H4 ⟨⟨c, hc, hcm⟩, dr⟩ => ?_
    subst hc
    have h4 := dr.at p3 nD
    refine ⟨_, h4, sz_lt (by rw [List.length_map]; omega), (p1.trans dr.1).mut hD, dr.2.updD nD nSc, cs ++ [c], by rw [upd_same, List.map_append]; rfl, by rw [List.length_append, p4]; rfl, fun y hy => ?_⟩
    rcases List.mem_append.mp hy with hy | hy
    · exact p5 y hy
    · rw [List.mem_singleton.mp hy]
      exact hcm
  · obtain ⟨p1, p2, cs, p3, p4, p5⟩ := p
    have hones : ∀ y ∈ cs.map (fun c => (⟨#[c]⟩ : Str)), y.length = 1 := fun y hy => by
      obtain ⟨c, _, rfl⟩ := List.mem_map.mp hy
      rfl
    have hs := sum_ones _ hones
    refine ⟨"", Dl, cs.map fun c => ⟨#[c]⟩, rfl, rfl, .inl (sq_of (by rw [p3, List.map_map]; rfl)), by rw [hs, List.length_map, p4, show ("" : Str).length = 0 from rfl]; omega, ?_⟩
    rw [join_ones]
    exact q _ H' ⟨cs, rfl, by omega, p5, r1.1.trans p1, p2⟩
theorem phrase_of {z : Str} (h : z.length ≤ 20) (hz : ∀ c ∈ z.cps.toList, c ∈ ("abcdefghijklmnopqrstuvwxyz0123456789 " : Str).cps.toList) : isPhraseT (.str z) = true := by
  show (decide (z.length ≤ 20) && z.cps.toList.all fun c => decide (c ∈ signsL)) = true
  rw [decide_eq_true h, Bool.true_and]
  exact List.all_eq_true.mpr fun c hc => decide_eq_true (hz c hc)
def SpPhrase (K : PySem.W.Frag) : Sp := fun vs H Q _ => ∃ s sc, vs = [.ref s] ∧ SrcAt H s sc ∧ ∀ (z : Str) H', isPhraseT (.str z) = true → Dr s sc H H' → Q (.str z) H'
theorem f_phrase (z : Cz w K mg) : Cl P w K mg base 2 "_law_phrase" (SpPhrase K) := by
  have c__law_draw := f_draw (P := P) (base := base) z
  refine cal_of (k := 1) z.fn__law_phrase z.glo__law_phrase K0.c__law_phrase (fun vs H Q E h => ?_) (fun cdv A outer s H vs Q _ hr h => ?_)
  · obtain ⟨s, sc, rfl, _⟩ := h
    rfl
  · obtain ⟨s, sc, rfl, S, k⟩ := h
    refine ⟨_, (pss_cons (ps_set (i := 1) K0.c__law_phrase.nd rfl (.inr rfl) pe_str)
      (pss_cons (ps_set (i := 2) K0.c__law_phrase.nd rfl (.inl rfl) (pe_c c__law_draw hr (by first | decide | omega) (by rfl) (pa_cons (pv 0) (pa_cons pe_int pa_nil))))
      (pss_cons (ps_if (pt_cmpR op_eq (pv 2) pe_int (nomark _)) (pss_one (ps_ret (pe_ix (show IxR _ (rIxL K) from ix_list) (pe_lst (pa_cons pe_str (pa_cons pe_str (pa_cons pe_str (pa_cons pe_str (pa_cons pe_str (pa_cons pe_str pa_nil))))))) (pe_c c__law_draw hr (by first | decide | omega) (by rfl) (pa_cons (pv 0) (pa_cons pe_int pa_nil))) (fun _ _ => rfl)))) pss_nil)
      (pss_cons (ps_if (pt_cmpR op_eq (pv 2) pe_int (nomark _)) (pss_cons (ps_set (i := 3) K0.c__law_phrase.nd rfl (.inl rfl) (pe_c c__law_draw hr (by first | decide | omega) (by rfl) (pa_cons (pv 0) (pa_cons pe_int pa_nil))))
      (pss_one (ps_ret (pe_op op_repV (pe_ix ix_str (pv 1) (pe_c c__law_draw hr (by first | decide | omega) (by rfl) (pa_cons (pv 0) (pa_cons pe_int pa_nil))) (fun _ _ => rfl)) (pv 3))))) pss_nil)
      (pss_one (ps_ret (pe_join pe_str (pe_lc (own := [("_law_k", 4)]) rfl K0.c__law_phrase.nd (pi_range1 (by rfl) z.free_range (pa_cons (pe_c c__law_draw hr (by first | decide | omega) (by rfl) (pa_cons (pv 0) (pa_cons pe_int pa_nil))) pa_nil)) (blkOk_by (N := N__law_phrase) (sc := defScope s__law_phrase) (by decide +kernel)) (fun _ _ _ _ _ => (pg_name (i := 4) K0.c__law_phrase.nd rfl (.inl rfl))) (fun _ _ _ _ _ => pts_nil) (fun _ _ _ _ _ => (pe_ix ix_str (pv 1) (pe_c c__law_draw hr (by first | decide | omega) (by rfl) (pa_cons (pv 0) (pa_cons pe_int pa_nil))) (fun _ _ => rfl))))))))))), ?_⟩
    refine q_asg ev_c fun H0 e0 => ?_
    have S0 := S.mono e0
    have r0 := Dr.of S e0
    refine EvX.q_asg (x_draw (m := 5) (ev_var rfl) ev_c S0 (by decide) (by decide)) fun v H1 ⟨d, hv, d0, d1, r1⟩ => ?_
    subst hv
    have r01 := r0.trans r1
    refine q_when (b := decide (d = 0)) (et_test (ev_op (ev_var rfl) ev_c rv_iEq)) (fun hb H2 e2 => ?_) (fun hb H2 e2 => ?_)
    · refine EvX.ret (x_pick (m := 6) (el_lst (ea_cons ev_c (ea_cons ev_c (ea_cons ev_c (ea_cons ev_c (ea_cons ev_c (ea_cons ev_c ea_nil)))))) (by decide)) (ev_var rfl) ev_c (r1.2.mono e2) rfl (by decide) (by decide)) fun v H3 ⟨hm, r3⟩ => ?_
      have hr := (r01.trans (Dr.of r01.2 e2)).trans r3
      simp only [List.mem_cons, List.not_mem_nil, or_false] at hm
      rcases hm with rfl | rfl | rfl | rfl | rfl | rfl <;> exact k _ H3 (by decide +kernel) hr
    refine q_when (b := decide (d = 1)) (et_test (ev_op (ev_var rfl) ev_c rv_iEq)) (fun hb2 H3 e3 => ?_) (fun hb2 H3 e3 => ?_)
    · have r3 := r01.trans (Dr.of r01.2 (e2.trans e3))
      refine EvX.q_asg (x_draw (m := 21) (ev_var rfl) ev_c r3.2 (by decide) (by decide)) fun v H4 ⟨n, hv, n0, n1, r4⟩ => ?_
      subst hv
      refine EvX.ret (EvX.op (R := fun v H' => ∃ z : Str, v = .str z ∧ isPhraseT (.str z) = true ∧ Dr s sc H H') (R2 := fun _ v H' => v = .int n ∧ Dr s sc H H') (x_signV (m := 37) (z := "abcdefghijklmnopqrstuvwxyz0123456789 ") (ev_var rfl) (ev_var rfl) ev_c r4.2 rfl (by decide) (by decide)) (fun x H5 r5 => (EvX.of (ev_var rfl)).imp fun v H6 h6 => ⟨h6.1, ((r3.trans r4).trans r5.2).trans (Dr.of r5.2.2 h6.2)⟩) fun x H5 y H6 ⟨⟨c, hc, hcm⟩, r5⟩ ⟨hy, r6⟩ Q6 q6 => ?_) fun v H7 ⟨z7, hz7, hl7, r7⟩ => ?_
      · subst hc
        refine ⟨⟨#[c]⟩, n, rfl, hy, n0, by omega, by show 1 ≤ 1000; omega, fun z9 hz9 hm9 => q6 _ _ ⟨z9, rfl, phrase_of ?_ fun c9 h9 => ?_, r6⟩⟩
        · have h1 : (⟨#[c]⟩ : Str).length = 1 := rfl
          rw [h1] at hz9
          omega
        · have h2 := hm9 c9 h9
          have h3 : c9 = c := by simpa using h2
          rw [h3]
          exact hcm
      · subst hz7
        exact k z7 H7 hl7 r7
    · have r3 := r01.trans (Dr.of r01.2 (e2.trans e3))
      refine EvX.ret (x_joinN (N := 6) (m := 37) (z := "abcdefghijklmnopqrstuvwxyz0123456789 ") (fun σ2 H2 hw => ev_var ?_) (fun σ2 H2 hw => ev_var ?_) ((x_draw (m := 6) (ev_var rfl) ev_c r3.2 (by decide) (by decide)).imp fun v H6 ⟨d, hv, d0, d1, r6⟩ => ⟨d.toNat, by rw [hv, Int.toNat_of_nonneg d0], by omega, r6⟩) (fun x => rfl) rfl (by decide) (by decide) (by decide)) fun v H5 ⟨cs, hv, hcl, hcz, r5⟩ => ?_
      · have h9 : (wipe σ2 [4])[0]? = some (some (.ref s)) := by
          rw [show wipe σ2 [4] = _ from hw]
          rfl
        exact wipe_some2 h9
      · have h9 : (wipe σ2 [4])[1]? = some (some (.str "abcdefghijklmnopqrstuvwxyz0123456789 ")) := by
          rw [show wipe σ2 [4] = _ from hw]
          rfl
        exact wipe_some2 h9
      · subst hv
        refine k ⟨cs.toArray⟩ H5 (phrase_of ?_ fun c hc => hcz c (by simpa using hc)) (r3.trans r5)
        have h1 : (⟨cs.toArray⟩ : Str).length = cs.length := List.size_toArray ..
        omega
end
end K0
/-! ## K3D -/
set_option Elab.async false
set_option linter.all false
set_option maxRecDepth 100000
set_option maxHeartbeats 4000000
namespace K0
open PySem PySem.Spec PyProof.Rows L2 Evl RZ KB
/-! data that does not touch the source: it stays through draws -/
def cutH (s : Addr) (H : Hp) : Hp := fun a => if a = s then none else H a
theorem cutH_ex {s : Addr} {H : Hp} : Ex (cutH s H) H := fun a u h => by
  unfold cutH at h
  split at h
  · cases h
  · exact h
theorem cutH_at {s a : Addr} {H : Hp} (n : a ≠ s) : cutH s H a = H a := if_neg n
theorem cutH_mono {s : Addr} {H H' : Hp} (r : ExO s H H') : Ex (cutH s H) (cutH s H') := fun a u h => by
  unfold cutH at h
  split at h
  · cases h
  · rename_i n
    rw [cutH_at n]
    exact r a u n h
/-- v stands for t, and away from the source -/
def RepS (K : PySem.W.Frag) (s : Addr) (H : Hp) (v : V) (t : Th) : Prop := Rep K (cutH s H) v t
theorem RepS.rep {K : PySem.W.Frag} {s : Addr} {H : Hp} {v : V} {t : Th} (r : RepS K s H v t) : Rep K H v t := Rep.mono cutH_ex r
theorem RepS.dr {K : PySem.W.Frag} {s : Addr} {sc : Sc} {H H' : Hp} {v : V} {t : Th} (d : Dr s sc H H') (r : RepS K s H v t) : RepS K s H' v t := Rep.mono (cutH_mono d.1) r
theorem RepS.ex {K : PySem.W.Frag} {s : Addr} {H H' : Hp} {v : V} {t : Th} (e : Ex H H') (r : RepS K s H v t) : RepS K s H' v t := Rep.mono (cutH_mono (ExO.of e)) r
theorem RepS.str {K : PySem.W.Frag} {s : Addr} {H : Hp} (x : Str) : RepS K s H (.str x) (.str x) := Rep.str x
theorem RepS.int {K : PySem.W.Frag} {s : Addr} {H : Hp} (x : Int) : RepS K s H (.int x) (.int x) := Rep.int x
theorem RepS.tup2 {K : PySem.W.Frag} {s p : Addr} {H : Hp} {v v2 : V} {t t2 : Th} (h : H p = some (.tup [v, v2])) (n : p ≠ s) (r : RepS K s H v t) (r2 : RepS K s H v2 t2) : RepS K s H (.ref p) (.tup [t, t2]) :=
  .tup (st_of (by rw [cutH_at n]; exact h)) (.cons r (.cons r2 .nil))
theorem RepS.tup1 {K : PySem.W.Frag} {s p : Addr} {H : Hp} {v : V} {t : Th} (h : H p = some (.tup [v])) (n : p ≠ s) (r : RepS K s H v t) : RepS K s H (.ref p) (.tup [t]) :=
  .tup (st_of (by rw [cutH_at n]; exact h)) (.cons r .nil)
section
variable {K : PySem.W.Frag} {σ : L2.St} {H H' : Hp} {ta : TE}
/-- a tuple of a word and something drawn -/
theorem x_tup2 {s : Addr} {sc : Sc} {u : Str} {F : Th → Prop} (h : EvX ta σ H (fun v H' => ∃ t, RepS K s H' v t ∧ F t ∧ Dr s sc H H')) :
    EvX (tTup (tCons (tC (.str u)) (tCons ta tNil))) σ H (fun v H' => ∃ t, RepS K s H' v (.tup [.str u, t]) ∧ F t ∧ Dr s sc H H') := fun Q q => by
  unfold tTup tCons tC tNil
  refine h _ fun v H2 ⟨t, r, f, d⟩ => ⟨sz_of (by simp), fun p hp => ?_⟩
  have n : p ≠ s := fun e => d.2.some (e ▸ hp)
  have e3 := Ex.new hp (o := .tup [.str u, v])
  exact q _ _ ⟨t, .tup2 upd_same n (.str u) (r.ex e3), f, d.trans (Dr.of d.2 e3)⟩
/-- a tuple of one word -/
theorem x_tup1 {s : Addr} {sc : Sc} {u : Str} (S : SrcAt H s sc) :
    EvX (tTup (tCons (tC (.str u)) tNil)) σ H (fun v H' => RepS K s H' v (.tup [.str u]) ∧ Dr s sc H H') := fun Q q => by
  unfold tTup tCons tC tNil
  refine ⟨sz_of (by simp), fun p hp => ?_⟩
  have n : p ≠ s := fun e => S.some (e ▸ hp)
  have e3 := Ex.new hp (o := .tup [.str u])
  exact q _ _ ⟨.tup1 upd_same n (.str u), Dr.of S e3⟩
end
end K0
/-! ## K3E -/
set_option Elab.async false
set_option linter.all false
set_option maxRecDepth 100000
set_option maxHeartbeats 4000000
namespace K0
open PySem PySem.Spec PyProof.Rows L2 Evl RZ KB
/-! a drawn leaf -/
inductive LeafT (m : Bool) : Th → Prop
  | word {u : Str} : u ∈ (["none", "yes", "no"] : List Str) → LeafT m (.tup [.str u])
  | num {i : Int} : 0 ≤ i → i < 1000 → LeafT m (.tup [.str "number", .int i])
  | text {z : Str} : isPhraseT (.str z) = true → LeafT m (.tup [.str "text", .str z])
  | above {z : Str} : m = true → nameB z = true → LeafT m (.tup [.str "above", .str z])
  | name {z : Str} : nameB z = true → LeafT m (.tup [.str "name", .str z])
section
variable {P : Program} {w : World} {K : PySem.W.Frag} {mg : Str → Option Value} {base : Heap} {σ : L2.St} {H H' H0 : Hp} {ta tb tc td te tl tv tk ti to : TE} {x y kv : V} {X0 : XK} {tu tz : TS} {D : Ends} {g : TG} {R : V → Hp → Prop}
theorem x_phrase {E : XK} {s : Addr} {sc : Sc} (h : Ev ta σ H (.ref s)) (S : SrcAt H s sc) : EvX (tCall (SpPhrase K) [] E (tCons ta tNil)) σ H (fun v H' => ∃ t, RepS K s H' v t ∧ (∃ z : Str, t = .str z ∧ isPhraseT (.str z) = true) ∧ Dr s sc H H') := fun Q q =>
  ea_cons h ea_nil H (Ex.refl H) _ fun H2 e2 => ⟨s, sc, rfl, S.mono e2, fun z H3 hz r => q _ H3 ⟨_, .str z, ⟨z, rfl, hz⟩, (Dr.of S e2).trans r⟩⟩
theorem x_nameV {E : XK} {s : Addr} {sc : Sc} (h : Ev ta σ H (.ref s)) (S : SrcAt H s sc) : EvX (tCall (SpNameV K) [] E (tCons ta tNil)) σ H (fun v H' => ∃ t, RepS K s H' v t ∧ (∃ z : Str, t = .str z ∧ nameB z = true) ∧ Dr s sc H H') := fun Q q =>
  ea_cons h ea_nil H (Ex.refl H) _ fun H2 e2 => ⟨s, sc, rfl, S.mono e2, fun z H3 hz r => q _ H3 ⟨_, .str z, ⟨z, rfl, hz⟩, (Dr.of S e2).trans r⟩⟩
theorem x_num {s : Addr} {sc : Sc} (hk : EvX tk σ H (fun v H' => ∃ d, v = .int d ∧ 0 ≤ d ∧ d < 1000 ∧ Dr s sc H H')) (hi : ∀ H', SrcAt H' s sc → EvX ti σ H' (fun v H2 => ∃ d, v = .int d ∧ 0 ≤ d ∧ d < 4 ∧ Dr s sc H' H2)) :
    EvX (tOp (rIxL K) (tLst (tCons (tC (.int 0)) (tCons (tC (.int 1)) (tCons (tC (.int 999)) (tCons tk tNil))))) ti) σ H (fun v H' => ∃ t, RepS K s H' v t ∧ (∃ i, t = .int i ∧ 0 ≤ i ∧ i < 1000) ∧ Dr s sc H H') := fun Q q => by
  unfold tOp tLst tCons tC tNil
  refine hk _ fun v H2 ⟨d, hv, d0, d1, r⟩ => ⟨sz_of (by simp), fun p hp => ?_⟩
  subst hv
  have n : p ≠ s := fun e => r.2.some (e ▸ hp)
  have e3 := Ex.new hp (o := .lst [.int 0, .int 1, .int 999, .int d])
  refine hi _ (r.2.mono e3) _ fun v H4 ⟨k, hv, k0, k1, r4⟩ => ?_
  subst hv
  have h4 := r4.at (upd_same (H := H2) (a := p) (o := .lst [.int 0, .int 1, .int 999, .int d])) n
  have hr := (r.trans (Dr.of r.2 e3)).trans r4
  obtain ⟨x, hx, hm⟩ := atI_some (xs := [V.int 0, .int 1, .int 999, .int d]) k0 (by simpa using k1)
  refine rv_ixL (sq_of h4) hx H4 (Ex.refl _) _ fun H5 e5 => ?_
  simp only [List.mem_cons, List.not_mem_nil, or_false] at hm
  have hd := hr.trans (Dr.of hr.2 e5)
  rcases hm with rfl | rfl | rfl | rfl
  · exact q _ H5 ⟨_, .int 0, ⟨0, rfl, by omega, by omega⟩, hd⟩
  · exact q _ H5 ⟨_, .int 1, ⟨1, rfl, by omega, by omega⟩, hd⟩
  · exact q _ H5 ⟨_, .int 999, ⟨999, rfl, by omega, by omega⟩, hd⟩
  · exact q _ H5 ⟨_, .int d, ⟨d, rfl, d0, d1⟩, hd⟩
theorem x_words3 {s : Addr} {sc : Sc} {u0 u1 u2 : Str} {d : Int} (hi : Ev te σ H (.int d)) (d0 : 0 ≤ d) (d1 : d < 3) (S : SrcAt H s sc) :
    EvX (tOp (rIxL K) (tLst (tCons (tTup (tCons (tC (.str u0)) tNil)) (tCons (tTup (tCons (tC (.str u1)) tNil)) (tCons (tTup (tCons (tC (.str u2)) tNil)) tNil)))) te) σ H (fun v H' => ∃ u, u ∈ [u0, u1, u2] ∧ RepS K s H' v (.tup [.str u]) ∧ Dr s sc H H') := fun Q q => by
  have g : ∀ u : Str, EvU (tTup (tCons (tC (.str u)) tNil)) σ H [.str u] := fun u => eu_tup (ea_cons ev_c ea_nil) (by simp)
  have g0 := g u0
  have g1 := g u1
  have g2 := g u2
  generalize tTup (tCons (tC (.str u0)) tNil) = t0 at g0
  generalize tTup (tCons (tC (.str u1)) tNil) = t1 at g1
  generalize tTup (tCons (tC (.str u2)) tNil) = t2 at g2
  unfold tOp tLst tCons tNil
  refine g0 H (Ex.refl H) _ fun a H1 ha e1 a1 => g1 H1 e1 _ fun b H2 hb e2 b2 => g2 H2 (e1.trans e2) _ fun c H3 hc e3 c3 => ⟨sz_of (by simp), fun p hp => ?_⟩
  have e4 := Ex.new hp (o := .lst [.ref a, .ref b, .ref c])
  have e14 := ((e1.trans e2).trans e3).trans e4
  refine hi _ e14 _ fun H5 e5 => ?_
  have e15 := e14.trans e5
  obtain ⟨x, hx, hm⟩ := atI_some (xs := [V.ref a, .ref b, .ref c]) d0 (by simpa using d1)
  refine rv_ixL (sq_of (e5 _ _ upd_same)) hx H5 (Ex.refl _) _ fun H6 e6 => ?_
  have na : a ≠ s := fun e => S.some (e ▸ ha)
  have nb : b ≠ s := fun e => (S.mono e1).some (e ▸ hb)
  have nc : c ≠ s := fun e => (S.mono (e1.trans e2)).some (e ▸ hc)
  have hd := Dr.of S (e15.trans e6)
  simp only [List.mem_cons, List.not_mem_nil, or_false] at hm
  rcases hm with rfl | rfl | rfl
  · exact q _ H6 ⟨u0, by simp, .tup1 (e6 _ _ (e5 _ _ (e4 _ _ (e3 _ _ (e2 _ _ a1))))) na (.str u0), hd⟩
  · exact q _ H6 ⟨u1, by simp, .tup1 (e6 _ _ (e5 _ _ (e4 _ _ (e3 _ _ b2)))) nb (.str u1), hd⟩
  · exact q _ H6 ⟨u2, by simp, .tup1 (e6 _ _ (e5 _ _ (e4 _ _ c3))) nc (.str u2), hd⟩
def SpLeaf (K : PySem.W.Frag) : Sp := fun vs H Q _ => ∃ s sc m, vs = [.ref s, .bl m] ∧ SrcAt H s sc ∧ ∀ v t H', RepS K s H' v t → LeafT m t → Dr s sc H H' → Q v H'
theorem f_leaf (z : Cz w K mg) : Cl P w K mg base 3 "_law_leaf" (SpLeaf K) := by
  have c__law_draw := f_draw (P := P) (base := base) z
  have c__law_name := f_nameV (P := P) (base := base) z
  have c__law_phrase := f_phrase (P := P) (base := base) z
  refine cal_of (k := 2) z.fn__law_leaf z.glo__law_leaf K0.c__law_leaf (fun vs H Q E h => ?_) (fun cdv A outer s H vs Q _ hr h => ?_)
  · obtain ⟨s, sc, m, rfl, _⟩ := h
    rfl
  · obtain ⟨s, sc, m, rfl, S, k⟩ := h
    refine ⟨_, (pss_cons (ps_set (i := 2) K0.c__law_leaf.nd rfl (.inl rfl) (pe_c c__law_draw hr (by first | decide | omega) (by rfl) (pa_cons (pv 0) (pa_cons pe_int pa_nil))))
      (pss_cons (ps_if (pt_cmpR op_lt (pv 2) pe_int (nomark _)) (pss_one (ps_ret (pe_ix (show IxR _ (rIxL K) from ix_list) (pe_lst (pa_cons (pe_tup (pa_cons pe_str pa_nil)) (pa_cons (pe_tup (pa_cons pe_str pa_nil)) (pa_cons (pe_tup (pa_cons pe_str pa_nil)) pa_nil)))) (pv 2) (fun _ _ => rfl)))) pss_nil)
      (pss_cons (ps_if (pt_cmpR op_eq (pv 2) pe_int (nomark _)) (pss_one (ps_ret (pe_tup (pa_cons pe_str (pa_cons (pe_ix (show IxR _ (rIxL K) from ix_list) (pe_lst (pa_cons pe_int (pa_cons pe_int (pa_cons pe_int (pa_cons (pe_c c__law_draw hr (by first | decide | omega) (by rfl) (pa_cons (pv 0) (pa_cons pe_int pa_nil))) pa_nil))))) (pe_c c__law_draw hr (by first | decide | omega) (by rfl) (pa_cons (pv 0) (pa_cons pe_int pa_nil))) (fun _ _ => rfl)) pa_nil))))) pss_nil)
      (pss_cons (ps_if (pt_cmpR op_eq (pv 2) pe_int (nomark _)) (pss_one (ps_ret (pe_tup (pa_cons pe_str (pa_cons (pe_c c__law_phrase hr (by first | decide | omega) (by rfl) (pa_cons (pv 0) pa_nil)) pa_nil))))) pss_nil)
      (pss_cons (ps_if (PW.pt (pw_and (pt_cmpR op_eq (pv 2) pe_int (nomark _)) (pw_and1 (pt_val (pv 1))))) (pss_one (ps_ret (pe_tup (pa_cons pe_str (pa_cons (pe_c c__law_name hr (by first | decide | omega) (by rfl) (pa_cons (pv 0) pa_nil)) pa_nil))))) pss_nil)
      (pss_one (ps_ret (pe_tup (pa_cons pe_str (pa_cons (pe_c c__law_name hr (by first | decide | omega) (by rfl) (pa_cons (pv 0) pa_nil)) pa_nil)))))))))), ?_⟩
    refine EvX.q_asg (x_draw (m := 8) (ev_var rfl) ev_c S (by decide) (by decide)) fun v H1 ⟨d, hv, d0, d1, r1⟩ => ?_
    subst hv
    refine q_when (b := decide (d < 3)) (et_test (ev_op (ev_var rfl) ev_c rv_I0)) (fun hb H2 e2 => ?_) (fun hb H2 e2 => ?_)
    · refine EvX.ret (x_words3 (ev_var rfl) d0 (of_decide_eq_true hb) (r1.2.mono e2)) fun v H3 ⟨u, hu, hr3, r3⟩ => ?_
      exact k _ _ H3 hr3 (.word hu) ((r1.trans (Dr.of r1.2 e2)).trans r3)
    have r2 := r1.trans (Dr.of r1.2 e2)
    refine q_when (b := decide (d = 3)) (et_test (ev_op (ev_var rfl) ev_c rv_iEq)) (fun hb H3 e3 => ?_) (fun hb3 H3 e3 => ?_)
    · have r3 := r2.trans (Dr.of r2.2 e3)
      refine EvX.ret (x_tup2 (x_num (x_draw (m := 1000) (ev_var rfl) ev_c r3.2 (by decide) (by decide)) fun H' S' => x_draw (m := 4) (ev_var rfl) ev_c S' (by decide) (by decide))) fun v H4 ⟨t, hr4, ⟨i, ht, i0, i1⟩, r4⟩ => ?_
      subst ht
      exact k _ _ H4 hr4 (.num i0 i1) (r3.trans r4)
    have r3 := r2.trans (Dr.of r2.2 e3)
    refine q_when (b := decide (d = 4)) (et_test (ev_op (ev_var rfl) ev_c rv_iEq)) (fun hb H4 e4 => ?_) (fun hb4 H4 e4 => ?_)
    · have r4 := r3.trans (Dr.of r3.2 e4)
      refine EvX.ret (x_tup2 (x_phrase (ev_var rfl) r4.2)) fun v H5 ⟨t, hr5, ⟨z, ht, hz⟩, r5⟩ => ?_
      subst ht
      exact k _ _ H5 hr5 (.text hz) (r4.trans r5)
    have r4 := r3.trans (Dr.of r3.2 e4)
    refine q_when (b := decide (d = 5) && m) (et_and (et_test (ev_op (ev_var rfl) ev_c rv_iEq)) fun _ => et_test (ev_var rfl)) (fun hb H5 e5 => ?_) (fun hb5 H5 e5 => ?_)
    · have r5 := r4.trans (Dr.of r4.2 e5)
      refine EvX.ret (x_tup2 (x_nameV (ev_var rfl) r5.2)) fun v H6 ⟨t, hr6, ⟨z, ht, hz⟩, r6⟩ => ?_
      subst ht
      exact k _ _ H6 hr6 (.above (Bool.and_eq_true_iff.mp hb).2 hz) (r5.trans r6)
    have r5 := r4.trans (Dr.of r4.2 e5)
    refine EvX.ret (x_tup2 (x_nameV (ev_var rfl) r5.2)) fun v H6 ⟨t, hr6, ⟨z, ht, hz⟩, r6⟩ => ?_
    subst ht
    exact k _ _ H6 hr6 (.name hz) (r5.trans r6)
end
end K0
/-! ## K3F -/
set_option Elab.async false
set_option linter.all false
set_option maxRecDepth 100000
set_option maxHeartbeats 4000000
namespace K0
open PySem PySem.Spec PyProof.Rows L2 Evl RZ KB
/-! a drawn leaf is an expression -/
section
variable {E : Th → Bool} {u t : Th} {m : Bool}
theorem p_num : partB E "number" u = isNumT u := by kernel_rfl
theorem p_phr : partB E "phrase" u = isPhraseT u := by kernel_rfl
theorem LeafT.good (h : LeafT m t) (n : Nat) : exprB (n + 1) t = true := by
  cases h with
  | word h =>
    simp only [List.mem_cons, List.not_mem_nil, or_false] at h
    rcases h with rfl | rfl | rfl <;> exact ex_good (l := []) (lookE (by decide +kernel)) rfl (fun p h => by simp at h)
  | num h0 h1 => exact ex_good (l := ["number"]) (lookE (by decide +kernel)) rfl (zp_cons (by rw [p_num]; show (decide _ && decide _) = true; rw [decide_eq_true h0, decide_eq_true (by omega)]; rfl) zp_nil)
  | text h => exact ex_good (l := ["phrase"]) (lookE (by decide +kernel)) rfl (zp_cons (by rw [p_phr]; exact h) zp_nil)
  | above _ h => exact ex_good (l := ["name"]) (lookE (by decide +kernel)) rfl (zp_cons (by rw [p_name]; exact h) zp_nil)
  | name h => exact ex_good (l := ["name"]) (lookE (by decide +kernel)) rfl (zp_cons (by rw [p_name]; exact h) zp_nil)
theorem adm_two {s : Str} {u : Th} (h : s.length ≤ 50000) (hu : Adm u) : Adm (.tup [.str s, u]) := adm_tup (adm_cons (adm_str s h) (adm_cons hu adm_nil)) (by simp) (head_ok _)
theorem name_len {z : Str} (h : nameB z = true) : z.length ≤ 8 := by
  unfold nameB at h
  simp only [Bool.and_eq_true, decide_eq_true_eq] at h
  exact h.1.2
theorem phrase_len {z : Str} (h : isPhraseT (.str z) = true) : z.length ≤ 20 := by
  have h : (decide (z.length ≤ 20) && _) = true := h
  exact of_decide_eq_true (Bool.and_eq_true_iff.mp h).1
theorem LeafT.adm (h : LeafT m t) : Adm t := by
  cases h with
  | word h =>
    simp only [List.mem_cons, List.not_mem_nil, or_false] at h
    rcases h with rfl | rfl | rfl <;> exact ⟨by decide +kernel, by decide +kernel⟩
  | num h0 h1 => exact adm_two (by decide) ⟨rfl, rfl⟩
  | text h => exact adm_two (by decide) (adm_str _ (by have := phrase_len h; omega))
  | above _ h => exact adm_two (by decide) (adm_str _ (by have := name_len h; omega))
  | name h => exact adm_two (by decide) (adm_str _ (by have := name_len h; omega))
end
end K0
/-! ## K3G -/
set_option Elab.async false
set_option linter.all false
set_option maxRecDepth 100000
set_option maxHeartbeats 4000000
namespace K0
open PySem PySem.Spec PyProof.Rows L2 Evl RZ KB
/-! drawn expressions -/
inductive ExT (m : Bool) : Nat → Th → Prop
  | leaf {n : Nat} {t : Th} : LeafT m t → ExT m (n + 1) t
  | list {n : Nat} {ts : List Th} : ts.length ≤ 4 → (∀ t ∈ ts, ExT m n t) → ExT m (n + 1) (.tup [.str "list", .lst ts])
  | table {n : Nat} {ps : List (Th × Th)} : ps.length ≤ 4 → (∀ p ∈ ps, ExT m n p.1) → (∀ p ∈ ps, ExT m n p.2) → ExT m (n + 1) (.tup [.str "table", .lst (ps.map fun p => .tup [p.1, p.2])])
  | one {n : Nat} {u : Str} {a : Th} : u ∈ (["not", "len", "kind"] : List Str) → ExT m n a → ExT m (n + 1) (.tup [.str u, a])
  | get {n : Nat} {a : Th} {z : Str} : ExT m n a → nameB z = true → ExT m (n + 1) (.tup [.str "get", a, .str z])
  | at_ {n : Nat} {a b : Th} : ExT m n a → ExT m n b → ExT m (n + 1) (.tup [.str "at", a, b])
  | op {n : Nat} {u : Str} {a b : Th} : u ∈ (["+", "-", "*", "<", "==", "and", "or"] : List Str) → ExT m n a → ExT m n b → ExT m (n + 1) (.tup [.str "op", .str u, a, b])
section
variable {E : Th → Bool} {u t : Th} {m : Bool}
theorem p_items : partB E "items" u = exprsB E 4 u := by kernel_rfl
theorem p_rows : partB E "rows" u = rowsB E u := by kernel_rfl
theorem p_sign : partB E "sign" u = isSignT u := by kernel_rfl
theorem ExT.good : ∀ {n : Nat} {t : Th}, ExT m n t → exprB n t = true
  | 0, _, h => by cases h
  | n + 1, _, h => by
    cases h with
    | leaf h => exact h.good n
    | list hl h =>
      refine ex_good (l := ["items"]) (lookE (by decide +kernel)) rfl (zp_cons ?_ zp_nil)
      rw [p_items]
      show (decide _ && _) = true
      rw [decide_eq_true hl, Bool.true_and]
      exact List.all_eq_true.mpr fun t ht => ExT.good (h t ht)
    | table hl h h2 =>
      refine ex_good (l := ["rows"]) (lookE (by decide +kernel)) rfl (zp_cons ?_ zp_nil)
      rw [p_rows]
      show (decide _ && _) = true
      rw [decide_eq_true (by rw [List.length_map]; exact hl), Bool.true_and]
      refine List.all_eq_true.mpr fun t ht => ?_
      obtain ⟨p, hp, rfl⟩ := List.mem_map.mp ht
      show (exprB n p.1 && (exprB n p.2 && true)) = true
      rw [ExT.good (h p hp), ExT.good (h2 p hp)]
      rfl
    | one hu h =>
      simp only [List.mem_cons, List.not_mem_nil, or_false] at hu
      rcases hu with rfl | rfl | rfl <;> exact ex_good (l := ["expression"]) (lookE (by decide +kernel)) rfl (zp_cons (by rw [p_expr]; exact ExT.good h) zp_nil)
    | get h hz => exact ex_good (l := ["expression", "name"]) (lookE (by decide +kernel)) rfl (zp_cons (by rw [p_expr]; exact ExT.good h) (zp_cons (by rw [p_name]; exact hz) zp_nil))
    | at_ h h2 => exact ex_good (l := ["expression", "expression"]) (lookE (by decide +kernel)) rfl (zp_cons (by rw [p_expr]; exact ExT.good h) (zp_cons (by rw [p_expr]; exact ExT.good h2) zp_nil))
    | op hu h h2 =>
      refine ex_good (l := ["sign", "expression", "expression"]) (lookE (by decide +kernel)) rfl (zp_cons ?_ (zp_cons (by rw [p_expr]; exact ExT.good h) (zp_cons (by rw [p_expr]; exact ExT.good h2) zp_nil)))
      rw [p_sign]
      simp only [List.mem_cons, List.not_mem_nil, or_false] at hu
      rcases hu with rfl | rfl | rfl | rfl | rfl | rfl | rfl <;> decide +kernel
theorem ExT.adm : ∀ {n : Nat} {t : Th}, ExT m n t → Adm t
  | 0, _, h => by cases h
  | n + 1, _, h => by
    cases h with
    | leaf h => exact h.adm
    | list hl h => exact adm_two (by decide) (adm_lst (fun t ht => ExT.adm (h t ht)) (by omega))
    | table hl h h2 =>
      refine adm_two (by decide) (adm_lst (fun t ht => ?_) (by rw [List.length_map]; omega))
      obtain ⟨p, hp, rfl⟩ := List.mem_map.mp ht
      exact adm_tup (adm_cons (ExT.adm (h p hp)) (adm_cons (ExT.adm (h2 p hp)) adm_nil)) (by simp) (head_ok _)
    | one hu h =>
      simp only [List.mem_cons, List.not_mem_nil, or_false] at hu
      rcases hu with rfl | rfl | rfl <;> exact adm_two (by decide) (ExT.adm h)
    | get h hz => exact adm_tup (adm_cons (adm_str _ (by decide)) (adm_cons (ExT.adm h) (adm_cons (adm_str _ (by have := name_len hz; omega)) adm_nil))) (by simp) (head_ok _)
    | at_ h h2 => exact adm_tup (adm_cons (adm_str _ (by decide)) (adm_cons (ExT.adm h) (adm_cons (ExT.adm h2) adm_nil))) (by simp) (head_ok _)
    | op hu h h2 =>
      refine adm_tup (adm_cons (adm_str _ (by decide)) (adm_cons (adm_str _ ?_) (adm_cons (ExT.adm h) (adm_cons (ExT.adm h2) adm_nil)))) (by simp) (head_ok _)
      simp only [List.mem_cons, List.not_mem_nil, or_false] at hu
      rcases hu with rfl | rfl | rfl | rfl | rfl | rfl | rfl <;> decide
end
/-! new things through draws -/
section
variable {P : Program} {w : World} {K : PySem.W.Frag} {mg : Str → Option Value} {base : Heap} {σ : L2.St} {H H' H0 : Hp} {ta tb tc td te tl tv tk ti to : TE} {tr : TA} {x y kv v : V} {X0 : XK} {t u : TT} {tu tz : TS} {D : Ends} {g : TG} {R : V → Hp → Prop} {s : Addr} {sc : Sc}
theorem LeafT.repN {m : Bool} {t : Th} (h : LeafT m t) (r : Rep K H v t) : RepN K H0 H v t := by
  cases h <;> cases r with
  | tup hT rs =>
    cases rs with
    | cons r1 rs =>
      cases r1
      first
      | (cases rs; exact .tup hT (.cons (.str _) .nil))
      | (cases rs with
         | cons r2 rs =>
          cases rs
          cases r2
          first
          | exact .tup hT (.cons (.str _) (.cons (.str _) .nil))
          | exact .tup hT (.cons (.str _) (.cons (.int _) .nil)))
theorem Dr.dm (d : Dr s sc H H') : Dm H H' := fun a h => by
  by_cases e : a = s
  · exact absurd (e ▸ h) d.2.some
  · cases h1 : H a with
    | none => rfl
    | some u =>
      rw [d.1 a u e h1] at h
      cases h
theorem Dm.trans {H1 H2 H3 : Hp} (a : Dm H1 H2) (b : Dm H2 H3) : Dm H1 H3 := fun x h => a x (b x h)
theorem RepN.dr {t : Th} (h0 : H0 s ≠ none) (S : SrcAt H s sc) (d : Dr s sc H H') (r : RepN K H0 H v t) : RepN K H0 H' v t := by
  obtain ⟨cs, i, c, st, n, no, ma, h1, _⟩ := S
  exact r.exo h0 h1 d.1
theorem RepsN.dr {vs : List V} {ts : List Th} (h0 : H0 s ≠ none) (S : SrcAt H s sc) (d : Dr s sc H H') (r : RepsN K H0 H vs ts) : RepsN K H0 H' vs ts := by
  obtain ⟨cs, i, c, st, n, no, ma, h1, _⟩ := S
  exact r.exo h0 h1 d.1
mutual
theorem RepN.avoid {p : Addr} {o : HO} (hp : H p = none) : ∀ {v : V} {t : Th}, RepN K H0 H v t → RepN K (upd H0 p o) H v t
  | _, _, .non => .non
  | _, _, .bl b => .bl b
  | _, _, .int i => .int i
  | _, _, .str x => .str x
  | _, _, .lst n h r => .lst (by rw [upd_ne (fun q => by rw [q, hp] at h; cases h)]; exact n) h (RepsN.avoid hp r)
  | _, _, .tup h r => .tup h (RepsN.avoid hp r)
  | _, _, .dic h => .dic h
theorem RepsN.avoid {p : Addr} {o : HO} (hp : H p = none) : ∀ {vs : List V} {ts : List Th}, RepsN K H0 H vs ts → RepsN K (upd H0 p o) H vs ts
  | _, _, .nil => .nil
  | _, _, .cons h r => .cons (RepN.avoid hp h) (RepsN.avoid hp r)
end
theorem RepsN.length : ∀ {vs : List V} {ts : List Th}, RepsN K H0 H vs ts → vs.length = ts.length
  | _, _, .nil => rfl
  | _, _, .cons _ r => by rw [List.length_cons, List.length_cons, RepsN.length r]
theorem RepsN.take : ∀ {vs : List V} {ts : List Th} (n : Nat), RepsN K H0 H vs ts → RepsN K H0 H (vs.take n) (ts.take n)
  | _, _, 0, _ => .nil
  | _, _, _ + 1, .nil => .nil
  | _, _, n + 1, .cons h r => .cons h (RepsN.take n r)
/-- drawn data, new against H0 -/
def DX (K : PySem.W.Frag) (s : Addr) (sc : Sc) (H0 : Hp) (ta : TE) (σ : L2.St) (H : Hp) (F : Th → Prop) : Prop := EvX ta σ H fun v H' => ∃ t, RepN K H0 H' v t ∧ F t ∧ Dr s sc H H'
def DA (K : PySem.W.Frag) (s : Addr) (sc : Sc) (H0 : Hp) (tr : TA) (σ : L2.St) (H : Hp) (F : List Th → Prop) : Prop := ∀ Q : List V → Hp → Prop, (∀ vs ts H', RepsN K H0 H' vs ts → F ts → Dr s sc H H' → Q vs H') → tr σ H Q
theorem DX.imp {F G : Th → Prop} (h : DX K s sc H0 ta σ H F) (k : ∀ t, F t → G t) : DX K s sc H0 ta σ H G := EvX.imp h fun v H' ⟨t, r, f, d⟩ => ⟨t, r, k t f, d⟩
theorem da_nil (S : SrcAt H s sc) : DA K s sc H0 tNil σ H (· = []) := fun Q q => q [] [] H .nil rfl (Dr.refl S)
theorem da_cons {F : Th → Prop} {G : List Th → Prop} (n0 : H0 s ≠ none) (ha : DX K s sc H0 ta σ H F) (hr : ∀ H1, Dr s sc H H1 → DA K s sc H0 tr σ H1 G) : DA K s sc H0 (tCons ta tr) σ H (fun ts => ∃ t r, ts = t :: r ∧ F t ∧ G r) := fun Q q =>
  ha _ fun v H1 ⟨t, rt, ft, d⟩ => hr H1 d _ fun vs ts H2 rs gs d2 => q _ _ H2 (.cons (rt.dr n0 d.2 d2) rs) ⟨t, ts, rfl, ft, gs⟩ (d.trans d2)
theorem dx_tup {G : List Th → Prop} (h : DA K s sc H0 tr σ H G) (hl : ∀ ts, G ts → ts.length ≤ 1000) : DX K s sc H0 (tTup tr) σ H (fun t => ∃ ts, t = .tup ts ∧ G ts) := fun Q q =>
  h _ fun vs ts H2 rs gs d => ⟨sz_of (by have := rs.length; have := hl ts gs; omega), fun p hp => q _ _ ⟨.tup ts, .tup (st_of upd_same) (rs.mono (Ex.new hp)), ⟨ts, rfl, gs⟩, d.trans (Dr.of d.2 (Ex.new hp))⟩⟩
theorem dx_ev {F : Th → Prop} {t : Th} (h : Ev ta σ H v) (r : RepN K H0 H v t) (f : F t) (S : SrcAt H s sc) : DX K s sc H0 ta σ H F := fun Q q =>
  h H (Ex.refl H) _ fun H1 e => q _ _ ⟨t, r.mono e, f, Dr.of S e⟩
theorem dx_str {z : Str} (S : SrcAt H s sc) : DX K s sc H0 (tC (.str z)) σ H (· = .str z) := dx_ev (t := .str z) ev_c (.str z) rfl S
/-- a new list of drawn things -/
theorem dl_lst {G : List Th → Prop} (dm : Dm H0 H) (h : DA K s sc H0 tr σ H G) (hl : ∀ ts, G ts → ts.length ≤ 1000) : EvX (tLst tr) σ H (fun v H' => ∃ p vs ts H2, v = .ref p ∧ H2 p = none ∧ H' = upd H2 p (.lst vs) ∧ RepsN K H0 H2 vs ts ∧ G ts ∧ Dr s sc H H2) := fun Q q =>
  h _ fun vs ts H2 rs gs d => ⟨sz_of (by have := rs.length; have := hl ts gs; omega), fun p hp => q _ _ ⟨p, vs, ts, H2, rfl, hp, rfl, rs, gs, d⟩⟩
/-- [te for _ in range(n)], te drawn -/
theorem dx_lc {F : Th → Prop} {j n : Nat} {vs : List Nat} (n0 : H0 s ≠ none) (dm : Dm H0 H) (hk : Ev tk σ H (.int (n : Nat))) (hn : n ≤ 1000) (S : SrcAt H s sc) (hw : ∀ x, wipe ((wipe σ vs).set j (some x)) vs = wipe σ vs)
    (he : ∀ σ2 H2, wipe σ2 vs = wipe σ vs → SrcAt H2 s sc → DX K s sc H2 te σ2 H2 F) :
    DX K s sc H0 (tLc (iRng1 (tCons tk tNil)) (gName j) tYes te vs) σ H (fun t => ∃ ts, t = .lst ts ∧ ts.length = n ∧ ∀ t ∈ ts, F t) := fun Q q => by
  refine hk H (Ex.refl H) _ fun H1 e1 => ⟨(n : Nat), rfl, by omega, by omega, fun Dl hD => ?_⟩
  have S1 := S.mono e1
  have nD : Dl ≠ s := fun zz => S1.some (zz ▸ hD)
  have nSc : Dl ≠ sc.a := fun zz => by
    obtain ⟨cs, i, c, st, n, no, ma, _, h2, _⟩ := S1
    rw [← zz, hD] at h2
    cases h2
  rw [Int.toNat_natCast]
  have n0s : (upd H1 Dl (.lst [])) s ≠ none := by
    rw [upd_ne (Ne.symm nD)]
    exact S1.some
  have n0D : (upd H1 Dl (.lst [])) Dl ≠ none := by
    rw [upd_same]
    exact fun q => nomatch q
  refine lc_it (walk_range (lo := 0) (n := n)) (fun i H' => ExO s H1 H' ∧ SrcAt H' s sc ∧ Dm (upd H1 Dl (.lst [])) H' ∧ ∃ ys ts, H' Dl = some (.lst ys) ∧ RepsN K (upd H1 Dl (.lst [])) H' ys ts ∧ ts.length = i ∧ ∀ t ∈ ts, F t) ⟨ExO.of (Ex.new hD), S1.mono (Ex.new hD), fun a h => h, [], [], upd_same, .nil, rfl, fun t ht => nomatch ht⟩ (fun i H' _ p => trivial) ?_ (fun H' p => ?_)
  · rintro i x H2 H3 hlt ⟨p1, p2, pd, ys, ts, p3, p4, p5, p6⟩ ⟨rfl, rfl⟩
    refine ⟨hw _, ?_⟩
    show te _ H3 _
    refine he _ H3 (hw _) p2 _ fun v H4 ⟨t, rt, ft, dr⟩ => ?_
    have h4 := dr.at p3 nD
    refine ⟨ys, h4, sz_lt (by have := p4.length; omega), (p1.trans dr.1).mut hD, dr.2.updD nD nSc, ?_, ys ++ [v], ts ++ [t], upd_same, ?_, by rw [List.length_append, p5]; rfl, fun y hy => ?_⟩
    · intro a h
      by_cases ea : a = Dl
      · rw [ea, upd_same] at h
        cases h
      · rw [upd_ne ea] at h
        exact pd a (dr.dm a h)
    · exact RepsN.snoc ((p4.dr n0s p2 dr).exo n0D h4 (ExO.upd (ExO.of (Ex.refl _)))) ((rt.base pd).exo n0D h4 (ExO.upd (ExO.of (Ex.refl _))))
    · rcases List.mem_append.mp hy with hy | hy
      · exact p6 y hy
      · rw [List.mem_singleton.mp hy]
        exact ft
  · obtain ⟨p1, p2, pd, ys, ts, p3, p4, p5, p6⟩ := p
    have e2 := e1.trans (Ex.new (o := .lst []) hD)
    exact q _ H' ⟨.lst ts, .lst (dm Dl (fresh_back e1 hD)) p3 (p4.base (dm.trans (Dm.of e2))), ⟨ts, rfl, p5, p6⟩, (Dr.of S e1).trans ⟨p1, p2⟩⟩
/-! tests with draws -/
def EvTX (tt : TT) (σ : L2.St) (H : Hp) (R : Bool → Hp → Prop) : Prop := ∀ Q : Bool → Hp → Prop, (∀ b H2, R b H2 → Q b H2) → tt σ H Q
theorem etx_test {R : Bool → Hp → Prop} (h : EvX te σ H (fun v H' => ∃ b, v = .bl b ∧ R b H')) : EvTX (tTest te) σ H R := fun Q q => h _ fun v H2 ⟨b, hb, r⟩ => ⟨b, hb, q b H2 r⟩
theorem etx_or {R : Bool → Hp → Prop} {a : Bool} (h : EvT t σ H a) (h1 : a = true → ∀ H1, Ex H H1 → R true H1) (h2 : a = false → ∀ H1, Ex H H1 → EvTX u σ H1 R) : EvTX (tOr t u) σ H R := fun Q q => h H (Ex.refl H) _ fun H1 e => by
  cases a with
  | true =>
    show Q true H1
    exact q _ _ (h1 rfl H1 e)
  | false =>
    show u σ H1 Q
    exact h2 rfl H1 e Q q
theorem EvTX.q_when {R : Bool → Hp → Prop} (h : EvTX t σ H R) (h1 : ∀ H1, R true H1 → tu { D with nx := tz D } σ H1) (h2 : ∀ H1, R false H1 → tz D σ H1) : tSeq (tIfS t tu tNext) tz D σ H := h _ fun b H2 r => by
  cases b with
  | true =>
    show tu _ σ H2
    exact h1 H2 r
  | false =>
    show tz D σ H2
    exact h2 H2 r
theorem s_appX {l : Addr} {xs : List V} (hl : H l = some (.lst xs)) (ha : Ev ta σ H (.ref l)) (h : ∀ H1, Ex H H1 → EvX te σ H1 R) (hs : ∀ v H2, R v H2 → H2 l = some (.lst xs)) (hz : xs.length < 100000) (k : ∀ v H2, R v H2 → D.nx σ (upd H2 l (.lst (xs ++ [v])))) :
    tDrop (tBM K "list" rAppend ta (tCons te tNil)) D σ H := ha H (Ex.refl H) _ fun H1 e1 =>
  ⟨Or.inl ⟨rfl, xs, sq_of (e1 l _ hl)⟩, h H1 e1 _ fun v H2 r => ⟨l, xs, v, rfl, rfl, hs v H2 r, sz_lt hz, k v H2 r⟩⟩
end
end K0
/-! ## K3H -/
set_option Elab.async false
set_option linter.all false
set_option maxRecDepth 100000
set_option maxHeartbeats 4000000
namespace K0
open PySem PySem.Spec PyProof.Rows L2 Evl RZ KB
section
variable {P : Program} {w : World} {K : PySem.W.Frag} {mg : Str → Option Value} {base : Heap} {σ : L2.St} {H H' H0 : Hp} {ta tb tc td te tl tv tk ti to : TE} {tr : TA} {x y kv v : V} {X0 : XK} {t u : TT} {tu tz : TS} {D : Ends} {g : TG} {R : V → Hp → Prop} {s : Addr} {sc : Sc}
def SpExpr (K : PySem.W.Frag) (n : Nat) : Sp := fun vs H Q _ => ∃ s sc m, vs = [.ref s, .int (n : Nat), .bl m] ∧ 1 ≤ n ∧ SrcAt H s sc ∧ ∀ v t H', RepN K H H' v t → ExT m n t → Dr s sc H H' → Q v H'
theorem dx_expr {E : XK} {n : Nat} {m : Bool} (n0 : H0 s ≠ none) (dm : Dm H0 H) (S : SrcAt H s sc) (h1 : 1 ≤ n) (ha : Ev ta σ H (.ref s)) (hb : Ev tb σ H (.int (n : Nat))) (hc : Ev tc σ H (.bl m)) :
    DX K s sc H0 (tCall (SpExpr K n) [] E (tCons ta (tCons tb (tCons tc tNil)))) σ H (ExT m n) := fun Q q =>
  ea_cons ha (ea_cons hb (ea_cons hc ea_nil)) H (Ex.refl H) _ fun H2 e2 => ⟨s, sc, m, rfl, h1, S.mono e2, fun v t H3 r f d => q _ H3 ⟨t, r.base (dm.trans (Dm.of e2)), f, (Dr.of S e2).trans d⟩⟩
theorem dx_leaf {E : XK} {n : Nat} {m : Bool} (ha : Ev ta σ H (.ref s)) (hc : Ev tc σ H (.bl m)) (S : SrcAt H s sc) : DX K s sc H0 (tCall (SpLeaf K) [] E (tCons ta (tCons tc tNil))) σ H (ExT m (n + 1)) := fun Q q =>
  ea_cons ha (ea_cons hc ea_nil) H (Ex.refl H) _ fun H2 e2 => ⟨s, sc, m, rfl, S.mono e2, fun v t H3 r lf d => q _ H3 ⟨t, lf.repN r.rep, .leaf lf, (Dr.of S e2).trans d⟩⟩
theorem dx_nameV {E : XK} (ha : Ev ta σ H (.ref s)) (S : SrcAt H s sc) : DX K s sc H0 (tCall (SpNameV K) [] E (tCons ta tNil)) σ H (fun t => ∃ z : Str, t = .str z ∧ nameB z = true) := fun Q q =>
  ea_cons ha ea_nil H (Ex.refl H) _ fun H2 e2 => ⟨s, sc, rfl, S.mono e2, fun z H3 hz r => q _ H3 ⟨.str z, .str z, ⟨z, rfl, hz⟩, (Dr.of S e2).trans r⟩⟩
theorem ev_room {n : Nat} (h : σ[1]? = some (some (.int ((n + 1 : Nat) : Int)))) : Ev (tOp (rI0 fun i j => .int (i - j)) (tVar 1) (tC (.int 1))) σ H (.int (n : Nat)) := ev_is (ev_op (ev_var h) ev_c rv_I0) (by congr 1; omega)
theorem dx_el {F : Th → Prop} {xs : List V} {ts : List Th} (dm : Dm H0 H) (h : EvL te σ H xs) (r : RepsN K H0 H xs ts) (f : F (.lst ts)) (S : SrcAt H s sc) : DX K s sc H0 te σ H F := fun Q q =>
  h H (Ex.refl H) _ fun p H1 hp e h1 => q _ _ ⟨.lst ts, .lst (dm p hp) h1 (r.mono e), f, Dr.of S e⟩
theorem pair_len {F G : Th → Prop} {ts : List Th} (h : ∃ t r, ts = t :: r ∧ F t ∧ ∃ t2 r2, r = t2 :: r2 ∧ G t2 ∧ r2 = []) : ∃ a b, ts = [a, b] ∧ F a ∧ G b := by
  obtain ⟨t, r, rfl, f, t2, r2, rfl, g, rfl⟩ := h
  exact ⟨t, t2, rfl, f, g⟩
def PairOk (m : Bool) (n : Nat) (t : Th) : Prop := ∃ a b, t = .tup [a, b] ∧ ExT m n a ∧ ExT m n b
theorem pairs_of {m : Bool} {n : Nat} : ∀ {ts : List Th}, (∀ t ∈ ts, PairOk m n t) → ∃ ps : List (Th × Th), ts = ps.map (fun p => .tup [p.1, p.2]) ∧ (∀ p ∈ ps, ExT m n p.1) ∧ ∀ p ∈ ps, ExT m n p.2
  | [], _ => ⟨[], rfl, fun _ h => (List.not_mem_nil h).elim, fun _ h => (List.not_mem_nil h).elim⟩
  | t :: ts, h => by
    obtain ⟨a, b, rfl, ha, hb⟩ := h t List.mem_cons_self
    obtain ⟨ps, rfl, h1, h2⟩ := pairs_of fun t ht => h t (List.mem_cons_of_mem _ ht)
    refine ⟨(a, b) :: ps, rfl, fun p hp => ?_, fun p hp => ?_⟩
    · rcases List.mem_cons.mp hp with rfl | hp
      · exact ha
      · exact h1 p hp
    · rcases List.mem_cons.mp hp with rfl | hp
      · exact hb
      · exact h2 p hp
theorem f_expression (z : Cz w K mg) : ∀ n : Nat, Cl P w K mg base (n + 4) "_law_expression" (SpExpr K n)
  | 0 => by
    refine cal_of (k := 3) z.fn__law_expression z.glo__law_expression K0.c__law_expression (fun vs H Q E h => ?_) (fun cdv A outer s H vs Q _ hr h => ?_)
    · obtain ⟨s, sc, m, rfl, _⟩ := h
      rfl
    · obtain ⟨s, sc, m, rfl, h0, _⟩ := h
      exact absurd h0 (by decide)
  | n + 1 => by
    have c__law_expression := f_expression z n
    have c__law_draw := f_draw (P := P) (base := base) z
    have c__law_name := f_nameV (P := P) (base := base) z
    have c__law_leaf := f_leaf (P := P) (base := base) z
    refine cal_of (k := n + 4) z.fn__law_expression z.glo__law_expression K0.c__law_expression (fun vs H Q E h => ?_) (fun cdv A outer s H vs Q _ hr h => ?_)
    · obtain ⟨s, sc, m, rfl, _⟩ := h
      rfl
    · obtain ⟨s, sc, m, rfl, _, S, k⟩ := h
      refine ⟨_, (pss_cons (ps_asg (pe_op op_sub (pe_ix (show IxR _ (rIxL K) from ix_list) (pv 0) pe_int (fun _ _ => rfl)) pe_int) (pg_sub (pv 0) pe_int set_list))
      (pss_cons (ps_if (PW.pt (pw_or (pt_cmpR op_eq (pv 1) pe_int (nomark _)) (pw_or (pt_cmpR op_lt (pe_ix (show IxR _ (rIxL K) from ix_list) (pv 0) pe_int (fun _ _ => rfl)) pe_int (nomark _)) (pw_or1 (pt_cmpR op_eq (pe_c c__law_draw hr (by first | decide | omega) (by rfl) (pa_cons (pv 0) (pa_cons pe_int pa_nil))) pe_int (nomark _)))))) (pss_one (ps_ret (pe_c c__law_leaf hr (by first | decide | omega) (by rfl) (pa_cons (pv 0) (pa_cons (pv 2) pa_nil))))) pss_nil)
      (pss_cons (ps_set (i := 3) K0.c__law_expression.nd rfl (.inl rfl) (pe_c c__law_draw hr (by first | decide | omega) (by rfl) (pa_cons (pv 0) (pa_cons pe_int pa_nil))))
      (pss_cons (ps_set (i := 4) K0.c__law_expression.nd rfl (.inl rfl) (pe_c c__law_draw hr (by first | decide | omega) (by rfl) (pa_cons (pv 0) (pa_cons pe_int pa_nil))))
      (pss_cons (ps_if (pt_cmpR op_eq (pv 3) pe_int (nomark _)) (pss_one (ps_ret (pe_tup (pa_cons pe_str (pa_cons (pe_lc (own := [("_law_k", 5)]) rfl K0.c__law_expression.nd (pi_range1 (by rfl) z.free_range (pa_cons (pv 4) pa_nil)) (blkOk_by (N := N__law_expression) (sc := defScope s__law_expression) (by decide +kernel)) (fun _ _ _ _ _ => (pg_name (i := 5) K0.c__law_expression.nd rfl (.inl rfl))) (fun _ _ _ _ _ => pts_nil) (fun _ _ _ _ _ => (pe_c c__law_expression hr (by first | decide | omega) (by rfl) (pa_cons (pv 0) (pa_cons (pe_op op_sub (pv 1) pe_int) (pa_cons (pv 2) pa_nil)))))) pa_nil))))) pss_nil)
      (pss_cons (ps_set (i := 6) K0.c__law_expression.nd rfl (.inl rfl) (pe_c c__law_expression hr (by first | decide | omega) (by rfl) (pa_cons (pv 0) (pa_cons (pe_op op_sub (pv 1) pe_int) (pa_cons (pv 2) pa_nil)))))
      (pss_cons (ps_if (pt_cmpR op_eq (pv 3) pe_int (nomark _)) (pss_cons (ps_set (i := 7) K0.c__law_expression.nd rfl (.inl rfl) (pe_lst (pa_cons (pe_tup (pa_cons (pv 6) (pa_cons (pe_c c__law_expression hr (by first | decide | omega) (by rfl) (pa_cons (pv 0) (pa_cons (pe_op op_sub (pv 1) pe_int) (pa_cons (pv 2) pa_nil)))) pa_nil))) pa_nil)))
      (pss_cons (ps_for PassesOwn.never rfl (pi_range1 (by rfl) z.free_range (pa_cons (pv 4) pa_nil)) (pg_name (i := 5) K0.c__law_expression.nd rfl (.inl rfl)) (pss_one (ps_if (pt_cmpR op_lt (pe_callB call_len_seq (by rfl) z.free_len PySem.boot_len (pa_cons (pv 7) pa_nil)) pe_int (nomark _)) (pss_cons (ps_set (i := 8) K0.c__law_expression.nd rfl (.inl rfl) (pe_c c__law_expression hr (by first | decide | omega) (by rfl) (pa_cons (pv 0) (pa_cons (pe_op op_sub (pv 1) pe_int) (pa_cons (pv 2) pa_nil)))))
      (pss_one (ps_expr (pe_bm PySem.F.plainAttrs_list PySem.F.slot_list_append PySem.F.type_list_append mt_append (pv 7) (pa_cons (pe_tup (pa_cons (pv 8) (pa_cons (pe_c c__law_expression hr (by first | decide | omega) (by rfl) (pa_cons (pv 0) (pa_cons (pe_op op_sub (pv 1) pe_int) (pa_cons (pv 2) pa_nil)))) pa_nil))) pa_nil))))) pss_nil)))
      (pss_one (ps_ret (pe_tup (pa_cons pe_str (pa_cons (pe_slice (show SlR _ (rSlL K) from sl_list) (pv 7) po_none (po_some (pv 4))) pa_nil))))))) pss_nil)
      (pss_cons (ps_if (pt_cmpR op_eq (pv 3) pe_int (nomark _)) (pss_one (ps_ret (pe_tup (pa_cons (pe_ix (show IxR _ (rIxL K) from ix_list) (pe_lst (pa_cons pe_str (pa_cons pe_str (pa_cons pe_str pa_nil)))) (pe_op op_mod (pe_callTy call_int1 (by rfl) z.free_int (by decide +kernel) (pa_cons (pv 4) pa_nil)) pe_int) (fun _ _ => rfl)) (pa_cons (pv 6) pa_nil))))) pss_nil)
      (pss_cons (ps_if (pt_cmpR op_eq (pv 3) pe_int (nomark _)) (pss_one (ps_ret (pe_tup (pa_cons pe_str (pa_cons (pv 6) (pa_cons (pe_c c__law_name hr (by first | decide | omega) (by rfl) (pa_cons (pv 0) pa_nil)) pa_nil)))))) pss_nil)
      (pss_cons (ps_set (i := 9) K0.c__law_expression.nd rfl (.inl rfl) (pe_c c__law_expression hr (by first | decide | omega) (by rfl) (pa_cons (pv 0) (pa_cons (pe_op op_sub (pv 1) pe_int) (pa_cons (pv 2) pa_nil)))))
      (pss_cons (ps_if (pt_cmpR op_eq (pv 3) pe_int (nomark _)) (pss_one (ps_ret (pe_tup (pa_cons pe_str (pa_cons (pv 6) (pa_cons (pv 9) pa_nil)))))) pss_nil)
      (pss_one (ps_ret (pe_tup (pa_cons pe_str (pa_cons (pe_ix (show IxR _ (rIxL K) from ix_list) (pe_lst (pa_cons pe_str (pa_cons pe_str (pa_cons pe_str (pa_cons pe_str (pa_cons pe_str (pa_cons pe_str (pa_cons pe_str pa_nil)))))))) (pe_c c__law_draw hr (by first | decide | omega) (by rfl) (pa_cons (pv 0) (pa_cons pe_int pa_nil))) (fun _ _ => rfl)) (pa_cons (pv 6) (pa_cons (pv 9) pa_nil)))))))))))))))))), ?_⟩
      have n0 := S.some
      obtain ⟨cs, i, c, st, nn, no, ma, h1, h2, h3⟩ := S
      have S : SrcAt H s sc := ⟨cs, i, c, st, nn, no, ma, h1, h2, h3⟩
      refine q_setL (j := 5) h1 (ev_op (ev_src (i := 5) (ev_var rfl) h1 rfl) ev_c rv_I0) (ev_var rfl) ev_c (by simp) fun H1 e1 => ?_
      have h11 := e1 _ _ h1
      have s1 : (upd H1 s (.lst [.ref sc.a, .int (i : Nat), .int c, .int st, .int nn, .int (no - 1), ma])) s = some (.lst [.ref sc.a, .int (i : Nat), .int c, .int st, .int nn, .int (no - 1), ma]) := upd_same
      have d1 : Dr s sc H (upd H1 s (.lst [.ref sc.a, .int (i : Nat), .int c, .int st, .int nn, .int (no - 1), ma])) := ⟨(ExO.of e1).upd, SrcAt.put h11 (e1 _ _ h2) h3⟩
      show tSeq _ _ _ _ (upd H1 s (.lst [.ref sc.a, .int (i : Nat), .int c, .int st, .int nn, .int (no - 1), ma]))
      generalize upd H1 s (.lst [.ref sc.a, .int (i : Nat), .int c, .int st, .int nn, .int (no - 1), ma]) = H2 at s1 d1
      refine EvTX.q_when (R := fun b H' => Dr s sc H H' ∧ (b = false → 1 ≤ n)) (etx_or (a := decide (((n + 1 : Nat) : Int) = 1)) (et_test (ev_op (ev_var rfl) ev_c rv_iEq)) (fun hb H3 e3 => ⟨d1.trans (Dr.of d1.2 e3), fun q => nomatch q⟩) fun hb H3 e3 => etx_or (a := decide (no - 1 < 0)) (et_test (ev_op (ev_src (i := 5) (ev_var rfl) (e3 _ _ s1) rfl) ev_c rv_I0)) (fun hb2 H4 e4 => ⟨d1.trans (Dr.of d1.2 (e3.trans e4)), fun q => nomatch q⟩) fun hb2 H4 e4 => etx_test (EvX.op (R1 := fun v H' => ∃ d, v = .int d ∧ 0 ≤ d ∧ d < 3 ∧ Dr s sc H4 H') (R2 := fun x v H' => v = .int 0 ∧ ∃ d, x = .int d ∧ Dr s sc H4 H') (x_draw (m := 3) (ev_var rfl) ev_c (d1.2.mono (e3.trans e4)) (by decide) (by decide)) (fun x H5 ⟨d, hx, _, _, d5⟩ => (EvX.of ev_c).imp fun v H6 ⟨hv, e6⟩ => ⟨hv, d, hx, d5.trans (Dr.of d5.2 e6)⟩) fun x H5 y H6 r1 ⟨hy, d, hx, d6⟩ Q6 q6 => ?_)) (fun H3 ⟨d3, _⟩ => ?_) (fun H3 ⟨d3, hn⟩ => ?_)
      · subst hx hy
        refine (rv_iEq (i := d) (j := 0)) H6 (Ex.refl _) _ fun H7 e7 => q6 _ H7 ⟨decide (d = 0), rfl, (d1.trans (Dr.of d1.2 (e3.trans e4))).trans (d6.trans (Dr.of d6.2 e7)), fun _ => ?_⟩
        have := of_decide_eq_false hb
        omega
      · exact EvX.ret (dx_leaf (n := n) (m := m) (ev_var rfl) (ev_var rfl) d3.2) fun v H4 ⟨t, rt, ft, d4⟩ => k v t H4 rt ft (d3.trans d4)
      have h1n := hn rfl
      clear hn d1 s1
      refine EvX.q_asg (x_draw (m := 8) (ev_var rfl) ev_c d3.2 (by decide) (by decide)) fun v H4 ⟨sh, hv, sh0, sh1, d4⟩ => ?_
      subst hv
      refine EvX.q_asg (x_draw (m := 5) (ev_var rfl) ev_c d4.2 (by decide) (by decide)) fun v H5 ⟨many, hv, m0, m1, d5⟩ => ?_
      subst hv
      obtain ⟨mn, rfl⟩ := Int.eq_ofNat_of_zero_le m0
      have d35 := (d3.trans d4).trans d5
      refine q_when (b := decide (sh = 0)) (et_test (ev_op (ev_var rfl) ev_c rv_iEq)) (fun hb H6 e6 => ?_) (fun hb H6 e6 => ?_)
      · have d6 := d35.trans (Dr.of d35.2 e6)
        refine EvX.ret (dx_tup (da_cons n0 (dx_str d6.2) fun H7 d7 => da_cons n0 (dx_lc (F := ExT m n) n0 (d6.trans d7).dm (ev_var rfl) (by omega) d7.2 (fun x => rfl) fun σ2 H8 hw S8 => dx_expr S8.some (fun a h => h) S8 h1n (ev_var ?_) (ev_room ?_) (ev_var ?_)) fun H8 d8 => da_nil d8.2) fun ts h => ?_) fun v H9 ⟨t, r9, ht, d9⟩ => ?_
        · exact wipe_some2 (vs := [5]) (by rw [show wipe σ2 [5] = _ from hw]; rfl)
        · exact wipe_some2 (vs := [5]) (by rw [show wipe σ2 [5] = _ from hw]; rfl)
        · exact wipe_some2 (vs := [5]) (by rw [show wipe σ2 [5] = _ from hw]; rfl)
        · obtain ⟨a, b, rfl, _⟩ := pair_len h
          simp
        · obtain ⟨ts, rfl, h⟩ := ht
          obtain ⟨a, b, rfl, rfl, ts, rfl, hl, hf⟩ := pair_len h
          exact k v _ H9 r9 (.list (by omega) hf) (d6.trans d9)
      have d6 := d35.trans (Dr.of d35.2 e6)
      clear d35 d3 d4 d5 e6
      refine EvX.q_asg (dx_expr n0 d6.dm d6.2 h1n (ev_var rfl) (ev_room rfl) (ev_var rfl)) fun fv H7 ⟨ft, rf, ff, d7⟩ => ?_
      have d7 := d6.trans d7
      refine q_when (b := decide (sh = 1)) (et_test (ev_op (ev_var rfl) ev_c rv_iEq)) (fun hb H8 e8 => ?_) (fun hb H8 e8 => ?_)
      · have d8 := d7.trans (Dr.of d7.2 e8)
        refine EvX.q_asg (dl_lst d8.dm (da_cons n0 (dx_tup (da_cons n0 (dx_ev (ev_var rfl) (rf.mono e8) ff d8.2) fun H9 d9 => da_cons n0 (dx_expr (n := n) (m := m) n0 (d8.trans d9).dm d9.2 h1n (ev_var rfl) (ev_room rfl) (ev_var rfl)) fun H10 d10 => da_nil d10.2) fun ts h => ?_) fun H9 d9 => da_nil d9.2) fun ts h => ?_) fun rv H9 ⟨p, vs, ts, H10, hv, hp, hH, rs, gs, d10⟩ => ?_
        · obtain ⟨a, b, rfl, _⟩ := pair_len h
          simp
        · obtain ⟨t, r, rfl, _, rfl⟩ := h
          simp
        subst hv
        obtain ⟨t1, r1, rfl, ⟨us, rfl, hus⟩, rfl⟩ := gs
        obtain ⟨a1, b1, rfl, fa1, fb1⟩ := pair_len hus
        have d10 := d8.trans d10
        have np : p ≠ s := fun q => d10.2.some (q ▸ hp)
        have npc : p ≠ sc.a := fun q => by
          obtain ⟨cs, i, c, st, n, no, ma, _, h2, _⟩ := d10.2
          rw [← q, hp] at h2
          cases h2
        have rs := rs.avoid (o := .lst []) hp
        have n0s : (upd H p (.lst [])) s ≠ none := by
          rw [upd_ne (Ne.symm np)]
          exact n0
        have n0p : (upd H p (.lst [])) p ≠ none := by
          rw [upd_same]
          exact fun q => nomatch q
        have hHp : H p = none := d10.dm p hp
        subst hH
        refine q_forR1 (n := (mn : Nat)) (ea_cons (ev_var rfl) ea_nil) (by omega) (fun i σ' H' => (∃ q5 q8 q9, σ' = [some (.ref s), some (.int ((n + 1 : Nat) : Int)), some (.bl m), some (.int sh), some (.int (mn : Nat)), q5, some fv, some (.ref p), q8, q9]) ∧ ExO s H H' ∧ SrcAt H' s sc ∧ Dm (upd H p (.lst [])) H' ∧ ∃ vs ts, H' p = some (.lst vs) ∧ RepsN K (upd H p (.lst [])) H' vs ts ∧ ts.length ≤ 4 ∧ ∀ t ∈ ts, PairOk m n t) (fun H11 e11 => ?_) (fun i σ' H' hi hP => ?_) (fun σ' H' hP => ?_)
        · refine ⟨⟨_, _, _, rfl⟩, (d10.1.mut hHp).trans (ExO.of e11), (d10.2.updD np npc).mono e11, fun a h => ?_, vs, _, e11 _ _ upd_same, (rs.mono (Ex.new hp)).mono e11, by simp, fun t ht => ?_⟩
          · have h := fresh_back e11 h
            by_cases ea : a = p
            · rw [ea, upd_same] at h
              cases h
            · rw [upd_ne ea] at h ⊢
              exact d10.dm a h
          · rw [List.mem_singleton.mp ht]
            exact ⟨_, _, rfl, fa1, fb1⟩
        · obtain ⟨⟨q5, q8, q9, rfl⟩, p1, p2, pd, vs, ts, p3, p4, p5, p6⟩ := hP
          refine s_when (b := decide ((vs.length : Int) < 4)) (et_test (ev_op (ev_lenL (ev_var rfl) (sq_of p3)) ev_c rv_I0)) (fun hb H12 e12 => ?_) (fun hb H12 e12 => ?_)
          · have S12 := p2.mono e12
            refine EvX.q_asg (dx_expr (n := n) (m := m) n0s (pd.trans (Dm.of e12)) S12 h1n (ev_var rfl) (ev_room rfl) (ev_var rfl)) fun kv H13 ⟨kt, rk, fk, d13⟩ => ?_
            have dm13 := (pd.trans (Dm.of e12)).trans d13.dm
            refine s_appX (l := p) (xs := vs) (R := fun v H' => ∃ t, RepN K (upd H p (.lst [])) H' v t ∧ PairOk m n t ∧ Dr s sc H13 H') (d13.at (e12 _ _ p3) np) (ev_var rfl) (fun H14 e14 => EvX.imp (dx_tup (da_cons n0s (dx_ev (ev_var rfl) (rk.mono e14) fk (d13.2.mono e14)) fun H15 d15 => da_cons n0s (dx_expr (n := n) (m := m) n0s ((dm13.trans (Dm.of e14)).trans d15.dm) d15.2 h1n (ev_var rfl) (ev_room rfl) (ev_var rfl)) fun H16 d16 => da_nil d16.2) fun ts h => ?_) fun v H15 ⟨t, rt, ⟨us, ht, hus⟩, d15⟩ => ?_) (fun v H15 ⟨t, rt, ft, d15⟩ => d15.at (d13.at (e12 _ _ p3) np) np) (by have := p4.length; omega) fun v H15 ⟨t, rt, ft, d15⟩ => ?_
            · obtain ⟨a, b, rfl, _⟩ := pair_len h
              simp
            · obtain ⟨a, b, rfl, fa, fb⟩ := pair_len hus
              exact ⟨t, rt, ⟨a, b, ht, fa, fb⟩, (Dr.of d13.2 e14).trans d15⟩
            · have dd := ((Dr.of p2 e12).trans d13).trans d15
              have h15 := dd.at p3 np
              refine ⟨⟨_, _, _, rfl⟩, (p1.trans dd.1).mut hHp, dd.2.updD np npc, fun a h => ?_, vs ++ [v], ts ++ [t], upd_same, RepsN.snoc ((p4.dr n0s p2 dd).exo n0p h15 (ExO.upd (ExO.of (Ex.refl _)))) (rt.exo n0p h15 (ExO.upd (ExO.of (Ex.refl _)))), ?_, fun y hy => ?_⟩
              · by_cases ea : a = p
                · rw [ea, upd_same] at h
                  cases h
                · rw [upd_ne ea] at h
                  exact pd a (dd.dm a h)
              · have := of_decide_eq_true hb
                have := p4.length
                rw [List.length_append]
                show ts.length + 1 ≤ 4
                omega
              · rcases List.mem_append.mp hy with hy | hy
                · exact p6 y hy
                · rw [List.mem_singleton.mp hy]
                  exact ft
          · exact ⟨⟨_, _, _, rfl⟩, p1.trans (ExO.of e12), p2.mono e12, pd.trans (Dm.of e12), vs, ts, e12 _ _ p3, p4.mono e12, p5, p6⟩
        · obtain ⟨⟨q5, q8, q9, rfl⟩, p1, p2, pd, vs, ts, p3, p4, p5, p6⟩ := hP
          have dd : Dr s sc H H' := ⟨p1, p2⟩
          refine EvX.ret (dx_tup (K := K) (H0 := H) (da_cons n0 (dx_str dd.2) fun H12 d12 => da_cons n0 (dx_el (F := fun t => ∃ ts, t = .lst ts ∧ ts.length ≤ 4 ∧ ∀ t ∈ ts, PairOk m n t) (dd.trans d12).dm (el_sl (ev_var rfl) eo_none (eo_some (ev_var rfl)) (sq_of (d12.at p3 np))) (by rw [cutV_to]; exact ((p4.dr n0s p2 d12).base (Dm.of (Ex.new hHp))).take mn) ⟨_, rfl, ?_, fun t ht => p6 t (List.mem_of_mem_take ht)⟩ d12.2) fun H13 d13 => da_nil d13.2) fun ts h => ?_) fun v H13 ⟨t, rt, ht, d13⟩ => ?_
          · rw [List.length_take]
            omega
          · obtain ⟨a, b, rfl, _⟩ := pair_len h
            simp
          · obtain ⟨us, rfl, hus⟩ := ht
            obtain ⟨a, b, rfl, rfl, ts2, rfl, hl, hf⟩ := pair_len hus
            obtain ⟨ps, rfl, h1, h2⟩ := pairs_of hf
            rw [List.length_map] at hl
            exact k v _ H13 rt (.table hl h1 h2) (dd.trans d13)
      have d8 := d7.trans (Dr.of d7.2 e8)
      have rf := rf.mono e8
      refine q_when (b := decide (sh = 2)) (et_test (ev_op (ev_var rfl) ev_c rv_iEq)) (fun hb2 H9 e9 => ?_) (fun hb2 H9 e9 => ?_)
      · have d9 := d8.trans (Dr.of d8.2 e9)
        obtain ⟨x, hx, hm⟩ := atI_some (xs := [V.str "not", .str "len", .str "kind"]) (d := ((mn : Nat) : Int) % 3) (Int.emod_nonneg _ (by decide)) (Int.emod_lt_of_pos _ (by decide))
        have hw : ∃ u : Str, x = .str u ∧ u ∈ (["not", "len", "kind"] : List Str) := by
          simp only [List.mem_cons, List.not_mem_nil, or_false] at hm
          rcases hm with rfl | rfl | rfl
          · exact ⟨_, rfl, by simp⟩
          · exact ⟨_, rfl, by simp⟩
          · exact ⟨_, rfl, by simp⟩
        obtain ⟨u, rfl, hu⟩ := hw
        refine EvX.ret (dx_tup (da_cons n0 (dx_ev (t := .str u) (F := (· = .str u)) (ev_opL1 (el_lst (ea_cons ev_c (ea_cons ev_c (ea_cons ev_c ea_nil))) (by decide)) (fun H10 e10 => ev_op (ev_int1 (ev_var rfl)) ev_c (rv_mod (by decide))) fun p H10 hp e10 => rv_ixL (sq_of hp) hx) (.str u) rfl d9.2) fun H10 d10 => da_cons n0 (dx_ev (ev_var rfl) ((rf.mono e9).dr n0 d9.2 d10) ff d10.2) fun H11 d11 => da_nil d11.2) fun ts h => ?_) fun v H11 ⟨t, rt, ht, d11⟩ => ?_
        · obtain ⟨a, b, rfl, _⟩ := pair_len h
          simp
        · obtain ⟨us, rfl, hus⟩ := ht
          obtain ⟨a, b, rfl, rfl, fb⟩ := pair_len hus
          exact k v _ H11 rt (.one hu fb) (d9.trans d11)
      have d9 := d8.trans (Dr.of d8.2 e9)
      have rf := rf.mono e9
      refine q_when (b := decide (sh = 3)) (et_test (ev_op (ev_var rfl) ev_c rv_iEq)) (fun hb3 H10 e10 => ?_) (fun hb3 H10 e10 => ?_)
      · have d10 := d9.trans (Dr.of d9.2 e10)
        refine EvX.ret (dx_tup (da_cons n0 (dx_str d10.2) fun H11 d11 => da_cons n0 (dx_ev (ev_var rfl) ((rf.mono e10).dr n0 d10.2 d11) ff d11.2) fun H12 d12 => da_cons n0 (dx_nameV (ev_var rfl) d12.2) fun H13 d13 => da_nil d13.2) fun ts h => ?_) fun v H14 ⟨t, rt, ht, d14⟩ => ?_
        · obtain ⟨t, r, rfl, _, h⟩ := h
          obtain ⟨a, b, rfl, _⟩ := pair_len h
          simp
        · obtain ⟨us, rfl, ⟨t1, r1, rfl, rfl, h⟩⟩ := ht
          obtain ⟨a, b, rfl, fa, ⟨zz, rfl, hz⟩⟩ := pair_len h
          exact k v _ H14 rt (.get fa hz) (d10.trans d14)
      have d10 := d9.trans (Dr.of d9.2 e10)
      have rf := rf.mono e10
      refine EvX.q_asg (dx_expr n0 d10.dm d10.2 h1n (ev_var rfl) (ev_room rfl) (ev_var rfl)) fun gv H11 ⟨gt, rg, fg, d11⟩ => ?_
      have rf := rf.dr n0 d10.2 d11
      have d11 := d10.trans d11
      refine q_when (b := decide (sh = 4)) (et_test (ev_op (ev_var rfl) ev_c rv_iEq)) (fun hb4 H12 e12 => ?_) (fun hb4 H12 e12 => ?_)
      · have d12 := d11.trans (Dr.of d11.2 e12)
        refine EvX.ret (dx_tup (da_cons n0 (dx_str d12.2) fun H13 d13 => da_cons n0 (dx_ev (ev_var rfl) ((rf.mono e12).dr n0 d12.2 d13) ff d13.2) fun H14 d14 => da_cons n0 (dx_ev (ev_var rfl) (((rg.mono e12).dr n0 d12.2 d13).dr n0 d13.2 d14) fg d14.2) fun H15 d15 => da_nil d15.2) fun ts h => ?_) fun v H16 ⟨t, rt, ht, d16⟩ => ?_
        · obtain ⟨t, r, rfl, _, h⟩ := h
          obtain ⟨a, b, rfl, _⟩ := pair_len h
          simp
        · obtain ⟨us, rfl, ⟨t1, r1, rfl, rfl, h⟩⟩ := ht
          obtain ⟨a, b, rfl, fa, fb⟩ := pair_len h
          exact k v _ H16 rt (.at_ fa fb) (d12.trans d16)
      have d12 := d11.trans (Dr.of d11.2 e12)
      have rf := rf.mono e12
      have rg := rg.mono e12
      refine EvX.ret (dx_tup (da_cons n0 (dx_str d12.2) fun H13 d13 => da_cons n0 (F := fun t => ∃ u : Str, t = .str u ∧ u ∈ (["+", "-", "*", "<", "==", "and", "or"] : List Str)) ((x_pick (m := 7) (el_lst (ea_cons ev_c (ea_cons ev_c (ea_cons ev_c (ea_cons ev_c (ea_cons ev_c (ea_cons ev_c (ea_cons ev_c ea_nil))))))) (by decide)) (ev_var rfl) ev_c d13.2 rfl (by decide) (by decide)).imp fun v H14 ⟨hm, d14⟩ => ?_) fun H14 d14 => da_cons n0 (dx_ev (ev_var rfl) ((rf.dr n0 d12.2 d13).dr n0 d13.2 d14) ff d14.2) fun H15 d15 => da_cons n0 (dx_ev (ev_var rfl) (((rg.dr n0 d12.2 d13).dr n0 d13.2 d14).dr n0 d14.2 d15) fg d15.2) fun H16 d16 => da_nil d16.2) fun ts h => ?_) fun v H16 ⟨t, rt, ht, d16⟩ => ?_
      · simp only [List.mem_cons, List.not_mem_nil, or_false] at hm
        rcases hm with rfl | rfl | rfl | rfl | rfl | rfl | rfl <;> exact ⟨_, .str _, ⟨_, rfl, by simp⟩, d14⟩
      · obtain ⟨t, r, rfl, _, t2, r2, rfl, _, h⟩ := h
        obtain ⟨a, b, rfl, _⟩ := pair_len h
        simp
      · obtain ⟨us, rfl, ⟨t1, r1, rfl, rfl, ⟨t2, r2, rfl, ⟨u, rfl, hu⟩, h⟩⟩⟩ := ht
        obtain ⟨a, b, rfl, fa, fb⟩ := pair_len h
        exact k v _ H16 rt (.op hu fa fb) (d12.trans d16)
end
end K0
/-! ## K4A -/
set_option Elab.async false
set_option linter.all false
set_option maxRecDepth 100000
set_option maxHeartbeats 4000000
namespace K0
open PySem PySem.Spec PyProof.Rows L2 Evl RZ KB
/-! no "above" -/
theorem aboveL_no : ∀ {ts : List Th}, (∀ t ∈ ts, aboveB t = false) → aboveL ts = false
  | [], _ => rfl
  | t :: ts, h => by
    show (aboveB t || aboveL ts) = false
    rw [h t List.mem_cons_self, aboveL_no fun x hx => h x (List.mem_cons_of_mem _ hx)]
    rfl
theorem ab_tup {w : Str} {us : List Th} (hw : w ≠ "above") (h : ∀ t ∈ us, aboveB t = false) : aboveB (.tup (.str w :: us)) = false := by
  show (decide (fw (.tup (.str w :: us)) = "above") || (aboveB (.str w) || aboveL us)) = false
  rw [fw_str, decide_eq_false hw, aboveL_no h]
  rfl
theorem ab_lst {us : List Th} (h : ∀ t ∈ us, aboveB t = false) : aboveB (.lst us) = false := aboveL_no h
theorem ab_nil : ∀ t ∈ ([] : List Th), aboveB t = false := fun _ h => (List.not_mem_nil h).elim
theorem ab_cons {t : Th} {ts : List Th} (h : aboveB t = false) (hs : ∀ x ∈ ts, aboveB x = false) : ∀ x ∈ t :: ts, aboveB x = false := fun x hx => by
  rcases List.mem_cons.mp hx with rfl | hx
  · exact h
  · exact hs x hx
/-- a tuple without "above" -/
def NoAb (t : Th) : Prop := aboveB t = false ∧ ∃ us, t = .tup us
theorem ab_row {a b : Th} (ha : NoAb a) (hb : NoAb b) : aboveB (.tup [a, b]) = false := by
  obtain ⟨h1, us, rfl⟩ := ha
  show (decide (fw (.tup [.tup us, b]) = "above") || (aboveB (.tup us) || (aboveB b || false))) = false
  rw [h1, hb.1, decide_eq_false (show ¬ (fw (.tup [.tup us, b]) = "above") by show ¬ (("" : Str) = "above"); decide +kernel)]
  rfl
theorem ExT.noAb : ∀ {n : Nat} {t : Th}, ExT false n t → NoAb t
  | 0, _, h => by cases h
  | n + 1, _, h => by
    cases h with
    | leaf h =>
      cases h with
      | word h =>
        simp only [List.mem_cons, List.not_mem_nil, or_false] at h
        rcases h with rfl | rfl | rfl <;> exact ⟨by decide +kernel, _, rfl⟩
      | num _ _ => exact ⟨ab_tup (by decide +kernel) (ab_cons rfl ab_nil), _, rfl⟩
      | text _ => exact ⟨ab_tup (by decide +kernel) (ab_cons rfl ab_nil), _, rfl⟩
      | above h _ => cases h
      | name _ => exact ⟨ab_tup (by decide +kernel) (ab_cons rfl ab_nil), _, rfl⟩
    | list hl h => exact ⟨ab_tup (by decide +kernel) (ab_cons (ab_lst fun t ht => (ExT.noAb (h t ht)).1) ab_nil), _, rfl⟩
    | table hl h h2 =>
      refine ⟨ab_tup (by decide +kernel) (ab_cons (ab_lst fun t ht => ?_) ab_nil), _, rfl⟩
      obtain ⟨p, hp, rfl⟩ := List.mem_map.mp ht
      exact ab_row (ExT.noAb (h p hp)) (ExT.noAb (h2 p hp))
    | one hu h =>
      refine ⟨ab_tup ?_ (ab_cons (ExT.noAb h).1 ab_nil), _, rfl⟩
      simp only [List.mem_cons, List.not_mem_nil, or_false] at hu
      rcases hu with rfl | rfl | rfl <;> decide +kernel
    | get h hz => exact ⟨ab_tup (by decide +kernel) (ab_cons (ExT.noAb h).1 (ab_cons rfl ab_nil)), _, rfl⟩
    | at_ h h2 => exact ⟨ab_tup (by decide +kernel) (ab_cons (ExT.noAb h).1 (ab_cons (ExT.noAb h2).1 ab_nil)), _, rfl⟩
    | op hu h h2 => exact ⟨ab_tup (by decide +kernel) (ab_cons rfl (ab_cons (ExT.noAb h).1 (ab_cons (ExT.noAb h2).1 ab_nil))), _, rfl⟩
/-! statements that stand where they are drawn -/
def tupL : Th → List Th
  | .tup ts => ts
  | _ => []
theorem fitsB_eq (t : Th) (d : Int) (r : Str) (l : Bool) : fitsB t d r l = (!(decide (d = 8) && decide (0 < (ofT blOf1 t).length)) && (!(decide (fw t = "leave") && !l) && (!(decide (r = "top") && (decide (fw t = "give") || (decide (fw t = "call") && giveT (tupL t)))) && (decide (r = "method") || !aboveL (ofT exOf1 t))))) := by
  unfold fitsB
  cases t <;> rfl
theorem fit_gen {t : Th} {d : Int} {r : Str} {l : Bool} (hb : d = 8 → ofT blOf1 t = []) (h1 : fw t = "leave" → l = true) (h2 : r = "top" → fw t ≠ "give" ∧ (fw t = "call" → giveT (tupL t) = false)) (h3 : r = "method" ∨ aboveL (ofT exOf1 t) = false) : fitsB t d r l = true := by
  rw [fitsB_eq]
  have a1 : (decide (d = 8) && decide (0 < (ofT blOf1 t).length)) = false := by
    by_cases h : d = 8
    · rw [hb h]
      simp
    · rw [decide_eq_false h, Bool.false_and]
  have a2 : (decide (fw t = "leave") && !l) = false := by
    by_cases h : fw t = "leave"
    · rw [h1 h]
      simp
    · rw [decide_eq_false h, Bool.false_and]
  have a3 : (decide (r = "top") && (decide (fw t = "give") || (decide (fw t = "call") && giveT (tupL t)))) = false := by
    by_cases h : r = "top"
    · obtain ⟨h4, h5⟩ := h2 h
      rw [decide_eq_false h4, Bool.false_or]
      by_cases h6 : fw t = "call"
      · rw [h5 h6]
        simp
      · rw [decide_eq_false h6]
        simp
    · rw [decide_eq_false h, Bool.false_and]
  have a4 : (decide (r = "method") || !aboveL (ofT exOf1 t)) = true := by
    rcases h3 with h | h
    · rw [decide_eq_true h, Bool.true_or]
    · rw [h]
      simp
  rw [a1, a2, a3, a4]
  rfl
/-- a statement at depth 8 - g, so good all through -/
def OkS : Nat → Str → Bool → Th → Prop
  | 0, _, _, _ => False
  | g + 1, r, l, t => Adm t ∧ stmtB t = true ∧ fitsB t (8 - (g : Nat)) r l = true ∧ ∀ b ∈ ofT blOf1 t, ∃ us, b = .lst us ∧ us.length ≤ 12 ∧ ∀ u ∈ us, OkS g (inR (fw t) r) (inL (fw t) l) u
/-- how many statements -/
def cntS : Nat → Th → Nat
  | 0, _ => 0
  | g + 1, t => 1 + ((ofT blOf1 t).map fun b => ((elems b).map (cntS g)).sum).sum
def cntL (g : Nat) (ts : List Th) : Nat := (ts.map (cntS g)).sum
theorem cntL_app {g : Nat} {ts us : List Th} : cntL g (ts ++ us) = cntL g ts + cntL g us := by
  unfold cntL
  rw [List.map_append, List.sum_append]
theorem st_stmt {w : Str} {l : List Str} {us : List Th} (hl : t_STATEMENTS.lookup w = some l) (hn : us.length = l.length) (hp : ∀ p ∈ l.zip us, partB (exprB 5) p.1 p.2 = true) (hr : restB w (.str w :: us) = true) : stmtB (.tup (.str w :: us)) = true := by
  show (partsB (exprB 5) (t_STATEMENTS.lookup (fw (.tup (.str w :: us)))) (.tup (.str w :: us)) && restB (fw (.tup (.str w :: us))) (.str w :: us)) = true
  rw [fw_str, hl, hr, Bool.and_true]
  show (decide ((Th.str w :: us).length = l.length + 1) && (l.zip ((Th.str w :: us).drop 1)).all fun p => partB (exprB 5) p.1 p.2) = true
  rw [decide_eq_true (by rw [List.length_cons, hn]), Bool.true_and]
  exact List.all_eq_true.mpr fun p h => hp p h
/-- from its parts: the expressions es, the blocks bs -/
theorem ok_of {g : Nat} {r : Str} {l : Bool} {w : Str} {us : List Th} {ks : List Str} (es bs : List Th) (hl : t_STATEMENTS.lookup w = some ks) (hn : us.length = ks.length) (hp : ∀ p ∈ ks.zip us, partB (exprB 5) p.1 p.2 = true) (hr : restB w (.str w :: us) = true) (hw : w.length ≤ 50000) (ha : ∀ u ∈ us, Adm u)
    (hes : ofT exOf1 (.tup (.str w :: us)) = es) (hbl : ofT blOf1 (.tup (.str w :: us)) = bs) (hex : ∀ e ∈ es, r = "method" ∨ aboveB e = false) (h1 : w = "leave" → l = true) (h2 : r = "top" → w ≠ "give" ∧ (w = "call" → giveT (.str w :: us) = false)) (hu : us.length ≤ 900)
    (hd : g = 0 → bs = []) (hbs : ∀ b ∈ bs, ∃ ts, b = .lst ts ∧ ts.length ≤ 12 ∧ ∀ u ∈ ts, OkS g (inR w r) (inL w l) u) : OkS (g + 1) r l (.tup (.str w :: us)) := by
  refine ⟨adm_tup (adm_cons (adm_str _ hw) ha) (by rw [List.length_cons]; omega) (head_ok _), st_stmt hl hn hp hr, fit_gen (fun h => ?_) h1 h2 ?_, fun b hb => ?_⟩
  · rw [hbl]
    exact hd (by omega)
  · rw [hes]
    by_cases h : r = "method"
    · exact .inl h
    · exact .inr (aboveL_no fun e he => (hex e he).resolve_left h)
  · rw [hbl] at hb
    exact hbs b hb
theorem cnt_of {g : Nat} {w : Str} {us : List Th} (bs : List Th) (hbl : ofT blOf1 (.tup (.str w :: us)) = bs) : cntS (g + 1) (.tup (.str w :: us)) = 1 + (bs.map fun b => cntL g (elems b)).sum := by
  show 1 + ((ofT blOf1 (.tup (.str w :: us))).map fun b => ((elems b).map (cntS g)).sum).sum = _
  rw [hbl]
  rfl
/-- of a simple one -/
def SimOk (r : Str) (l : Bool) (t : Th) : Prop := ∀ g, OkS (g + 1) r l t ∧ cntS (g + 1) t = 1
theorem sim_of {r : Str} {l : Bool} {w : Str} {us : List Th} {ks : List Str} (es : List Th) (hl : t_STATEMENTS.lookup w = some ks) (hn : us.length = ks.length) (hp : ∀ p ∈ ks.zip us, partB (exprB 5) p.1 p.2 = true) (hr : restB w (.str w :: us) = true) (hw : w.length ≤ 50000) (ha : ∀ u ∈ us, Adm u)
    (hes : ofT exOf1 (.tup (.str w :: us)) = es) (hbl : ofT blOf1 (.tup (.str w :: us)) = []) (hex : ∀ e ∈ es, r = "method" ∨ aboveB e = false) (h1 : w = "leave" → l = true) (h2 : r = "top" → w ≠ "give" ∧ (w = "call" → giveT (.str w :: us) = false)) (hu : us.length ≤ 900) : SimOk r l (.tup (.str w :: us)) := fun g =>
  ⟨ok_of es [] hl hn hp hr hw ha hes hbl hex h1 h2 hu (fun _ => rfl) (fun _ h => (List.not_mem_nil h).elim), by rw [cnt_of [] hbl]; rfl⟩
/-- a drawn expression of a statement -/
def ExE (r : Str) (e : Th) : Prop := ExT (decide (r = "method")) 5 e
section
variable {r : Str} {e t : Th} {E : Th → Bool}
theorem ExE.ab (h : ExE r e) : r = "method" ∨ aboveB e = false := by
  by_cases hr : r = "method"
  · exact .inl hr
  · unfold ExE at h
    rw [decide_eq_false hr] at h
    exact .inr h.noAb.1
theorem ExE.part (h : ExE r e) : partB (exprB 5) "expression" e = true := by
  rw [p_expr]
  exact ExT.good h
theorem ExE.adm (h : ExE r e) : Adm e := ExT.adm h
theorem ExE.ne (h : ExE r e) : e ≠ .non := fun q => by
  subst q
  have := ExT.good h
  cases this
theorem name_part {z : Str} (h : nameB z = true) : partB E "name" (.str z) = true := by
  rw [p_name]
  exact h
theorem name_adm {z : Str} (h : nameB z = true) : Adm (.str z) := adm_str _ (by have := name_len h; omega)
theorem exl_nil : ∀ e ∈ ([] : List Th), r = "method" ∨ aboveB e = false := fun _ h => (List.not_mem_nil h).elim
theorem exl_cons {es : List Th} (h : ExE r e) (hs : ∀ e ∈ es, r = "method" ∨ aboveB e = false) : ∀ x ∈ e :: es, r = "method" ∨ aboveB x = false := fun x hx => by
  rcases List.mem_cons.mp hx with rfl | hx
  · exact h.ab
  · exact hs x hx
end
section
variable {r : Str} {l : Bool} {e e2 e3 : Th} {z y : Str}
theorem ne_w {w : Str} (h : decide (w = "leave") = false) : w = "leave" → l = true := fun q => absurd q (of_decide_eq_false h)
theorem ne_t {w : Str} {us : List Th} (h : decide (w = "give") = false) (h2 : decide (w = "call") = false) : r = "top" → w ≠ "give" ∧ (w = "call" → giveT (.str w :: us) = false) := fun _ => ⟨of_decide_eq_false h, fun q => absurd q (of_decide_eq_false h2)⟩
theorem sim_ask (hz : nameB z = true) (hy : isPhraseT (.str y) = true) : SimOk r l (.tup [.str "ask", .str z, .str y]) :=
  sim_of (ks := ["name", "phrase"]) [] (lookS (by decide +kernel)) rfl (zp_cons (name_part hz) (zp_cons (by rw [p_phr]; exact hy) zp_nil)) (by kernel_rfl) (by decide) (adm_cons (name_adm hz) (adm_cons (adm_str _ (by have := phrase_len hy; omega)) adm_nil)) (by kernel_rfl) (by kernel_rfl) exl_nil (ne_w (by decide +kernel)) (ne_t (by decide +kernel) (by decide +kernel)) (by simp)
theorem sim_leave (hl : l = true) : SimOk r l (.tup [.str "leave"]) :=
  sim_of (ks := []) [] (lookS (by decide +kernel)) rfl (fun p h => by simp at h) (by kernel_rfl) (by decide) adm_nil (by kernel_rfl) (by kernel_rfl) exl_nil (fun _ => hl) (ne_t (by decide +kernel) (by decide +kernel)) (by simp)
theorem sim_let {w : Str} (hw : w ∈ (["let", "set"] : List Str)) (hz : nameB z = true) (he : ExE r e) : SimOk r l (.tup [.str w, .str z, e]) := by
  simp only [List.mem_cons, List.not_mem_nil, or_false] at hw
  rcases hw with rfl | rfl <;>
  exact sim_of (ks := ["name", "expression"]) [e] (lookS (by decide +kernel)) rfl (zp_cons (name_part hz) (zp_cons he.part zp_nil)) (by kernel_rfl) (by decide) (adm_cons (name_adm hz) (adm_cons he.adm adm_nil)) (by kernel_rfl) (by kernel_rfl) (exl_cons he exl_nil) (ne_w (by decide +kernel)) (ne_t (by decide +kernel) (by decide +kernel)) (by simp)
theorem sim_give (hr : r ≠ "top") (he : ExE r e) : SimOk r l (.tup [.str "give", e]) :=
  sim_of (ks := ["expression"]) [e] (lookS (by decide +kernel)) rfl (zp_cons he.part zp_nil) (by kernel_rfl) (by decide) (adm_cons he.adm adm_nil) (by kernel_rfl) (by kernel_rfl) (exl_cons he exl_nil) (ne_w (by decide +kernel)) (fun q => absurd q hr) (by simp)
theorem sim_put (he : ExE r e) (hz : nameB z = true) (he2 : ExE r e2) : SimOk r l (.tup [.str "put", e, .str z, e2]) :=
  sim_of (ks := ["expression", "name", "expression"]) [e, e2] (lookS (by decide +kernel)) rfl (zp_cons he.part (zp_cons (name_part hz) (zp_cons he2.part zp_nil))) (by kernel_rfl) (by decide) (adm_cons he.adm (adm_cons (name_adm hz) (adm_cons he2.adm adm_nil))) (by kernel_rfl) (by kernel_rfl) (exl_cons he (exl_cons he2 exl_nil)) (ne_w (by decide +kernel)) (ne_t (by decide +kernel) (by decide +kernel)) (by simp)
theorem sim_add (he : ExE r e) (he2 : ExE r e2) : SimOk r l (.tup [.str "add", e, e2]) :=
  sim_of (ks := ["expression", "expression"]) [e, e2] (lookS (by decide +kernel)) rfl (zp_cons he.part (zp_cons he2.part zp_nil)) (by kernel_rfl) (by decide) (adm_cons he.adm (adm_cons he2.adm adm_nil)) (by kernel_rfl) (by kernel_rfl) (exl_cons he (exl_cons he2 exl_nil)) (ne_w (by decide +kernel)) (ne_t (by decide +kernel) (by decide +kernel)) (by simp)
theorem sim_place (he : ExE r e) (he2 : ExE r e2) (he3 : ExE r e3) : SimOk r l (.tup [.str "place", e, e2, e3]) :=
  sim_of (ks := ["expression", "expression", "expression"]) [e, e2, e3] (lookS (by decide +kernel)) rfl (zp_cons he.part (zp_cons he2.part (zp_cons he3.part zp_nil))) (by kernel_rfl) (by decide) (adm_cons he.adm (adm_cons he2.adm (adm_cons he3.adm adm_nil))) (by kernel_rfl) (by kernel_rfl) (exl_cons he (exl_cons he2 (exl_cons he3 exl_nil))) (ne_w (by decide +kernel)) (ne_t (by decide +kernel) (by decide +kernel)) (by simp)
theorem sim_one {w : Str} (hw : w ∈ (["cut", "raise", "say"] : List Str)) (he : ExE r e) : SimOk r l (.tup [.str w, e]) := by
  simp only [List.mem_cons, List.not_mem_nil, or_false] at hw
  rcases hw with rfl | rfl | rfl <;>
  exact sim_of (ks := ["expression"]) [e] (lookS (by decide +kernel)) rfl (zp_cons he.part zp_nil) (by kernel_rfl) (by decide) (adm_cons he.adm adm_nil) (by kernel_rfl) (by kernel_rfl) (exl_cons he exl_nil) (ne_w (by decide +kernel)) (ne_t (by decide +kernel) (by decide +kernel)) (by simp)
theorem args_part {as : List Th} (hl : as.length ≤ 3) (h : ∀ a ∈ as, ExE r a) : partB (exprB 5) "arguments" (.lst as) = true := by
  show (decide (as.length ≤ 3) && as.all (exprB 5)) = true
  rw [decide_eq_true hl, Bool.true_and]
  exact List.all_eq_true.mpr fun a ha => ExT.good (h a ha)
theorem args_adm {as : List Th} (hl : as.length ≤ 3) (h : ∀ a ∈ as, ExE r a) : Adm (.lst as) := adm_lst (fun a ha => (h a ha).adm) (by omega)
/-- the name of a call: a name for let and set, none otherwise -/
def CallN (how : Str) (n : Th) : Prop := how ∈ (["let", "set", "drop", "say", "give"] : List Str) ∧ ((how = "let" ∨ how = "set") → ∃ z, n = .str z ∧ nameB z = true) ∧ (¬ (how = "let" ∨ how = "set") → n = .non)
theorem sim_call {how : Str} {n : Th} {as : List Th} (hc : CallN how n) (hg : r = "top" → how ≠ "give") (he : ExE r e) (hl : as.length ≤ 3) (ha : ∀ a ∈ as, ExE r a) : SimOk r l (.tup [.str "call", .str how, n, e, .lst as]) := by
  have hex : ∀ x ∈ e :: as, r = "method" ∨ aboveB x = false := exl_cons he fun x hx => (ha x hx).ab
  have hes : ∀ {h : Str} {n : Th}, ofT exOf1 (.tup [.str "call", .str h, n, e, .lst as]) = e :: as := by
    intro h n
    show ([] ++ ([] ++ ([e] ++ (as ++ [])))) = _
    rw [List.append_nil]
    rfl
  obtain ⟨h1, h2, h3⟩ := hc
  have gen : ∀ {h : Str} {n : Th}, isHowT (.str h) = true → partB (exprB 5) "perhaps a name" n = true → Adm n → restB "call" [.str "call", .str h, n, e, .lst as] = true → h.length ≤ 50000 → (r = "top" → h ≠ "give") → SimOk r l (.tup [.str "call", .str h, n, e, .lst as]) := fun {h n} q1 q2 q3 q4 q5 q6 =>
    sim_of (ks := ["how", "perhaps a name", "expression", "arguments"]) (e :: as) (lookS (by decide +kernel)) rfl (zp_cons (by rw [show partB (exprB 5) "how" (.str h) = isHowT (.str h) by kernel_rfl]; exact q1) (zp_cons q2 (zp_cons he.part (zp_cons (args_part hl ha) zp_nil)))) q4 (by decide) (adm_cons (adm_str _ q5) (adm_cons q3 (adm_cons he.adm (adm_cons (args_adm hl ha) adm_nil)))) hes (by kernel_rfl) hex (ne_w (by decide +kernel)) (fun hr => ⟨by decide +kernel, fun _ => by
      show decide (h = "give") = false
      exact decide_eq_false (q6 hr)⟩) (by simp)
  have hr : ∀ {h : Str} {n : Th}, restB "call" [.str "call", .str h, n, e, .lst as] = decide ((!isNonT n) = (decide (h = "let") || decide (h = "set"))) := by
    intro h n
    kernel_rfl
  simp only [List.mem_cons, List.not_mem_nil, or_false] at h1
  rcases h1 with rfl | rfl | rfl | rfl | rfl
  · obtain ⟨z, rfl, hz⟩ := h2 (.inl rfl)
    exact gen (by decide +kernel) (by rw [p_perh]; exact hz) (name_adm hz) (by rw [hr]; show decide ((!false) = (decide (("let" : Str) = "let") || decide (("let" : Str) = "set"))) = true; decide +kernel) (by decide) hg
  · obtain ⟨z, rfl, hz⟩ := h2 (.inr rfl)
    exact gen (by decide +kernel) (by rw [p_perh]; exact hz) (name_adm hz) (by rw [hr]; show decide ((!false) = (decide (("set" : Str) = "let") || decide (("set" : Str) = "set"))) = true; decide +kernel) (by decide) hg
  · have := h3 (by decide +kernel)
    subst this
    exact gen (by decide +kernel) (by rw [p_perh]; rfl) adm_non (by rw [hr]; decide +kernel) (by decide) hg
  · have := h3 (by decide +kernel)
    subst this
    exact gen (by decide +kernel) (by rw [p_perh]; rfl) adm_non (by rw [hr]; decide +kernel) (by decide) hg
  · have := h3 (by decide +kernel)
    subst this
    exact gen (by decide +kernel) (by rw [p_perh]; rfl) adm_non (by rw [hr]; decide +kernel) (by decide) hg
end
end K0
/-! ## K4B -/
set_option Elab.async false
set_option linter.all false
set_option maxRecDepth 100000
set_option maxHeartbeats 4000000
namespace K0
open PySem PySem.Spec PyProof.Rows L2 Evl RZ KB
section
variable {P : Program} {w : World} {K : PySem.W.Frag} {mg : Str → Option Value} {base : Heap} {σ : L2.St} {H H' H0 : Hp} {ta tb tc td te tl tv tk ti to : TE} {tr : TA} {x y kv v : V} {X0 : XK} {t u : TT} {tu tz : TS} {D : Ends} {g : TG} {R : V → Hp → Prop} {s : Addr} {sc sc' : Sc}
theorem EvX.s_asg {i : Nat} (h : EvX te σ H R) (k : ∀ v H2, R v H2 → D.nx (σ.set i (some v)) H2) : tAsg te (gName i) D σ H := h _ k
/-- for over range(drawn) -/
theorem s_forX {j : Nat} {R : Nat → Hp → Prop} (h : EvX te σ H (fun v H' => ∃ n : Nat, v = .int ((n : Nat) : Int) ∧ n ≤ 100000 ∧ R n H')) (k : ∀ n H1, R n H1 → ∃ Pv : Nat → L2.St → Hp → Prop, Pv 0 σ H1 ∧ (∀ (i : Nat) σ' H', i < n → Pv i σ' H' → tu { D with nx := Pv (i + 1), ct := Pv (i + 1), bk := D.nx } (σ'.set j (some (.int ((i : Nat) : Int)))) H') ∧ ∀ σ' H', Pv n σ' H' → D.nx σ' H') :
    tFor (iRng1 (tCons te tNil)) (gName j) tu D σ H := h _ fun v H1 ⟨n, hv, hn, r⟩ => by
  obtain ⟨Pv, h0, hs, hd⟩ := k n H1 r
  refine ⟨((n : Nat) : Int), by rw [hv], by omega, by omega, ?_⟩
  rw [Int.toNat_natCast]
  exact for_range (lo := 0) (n := n) Pv h0 (fun i σ' H' hi p => by
    have e0 : (0 : Int) + (i : Int) = (i : Int) := Int.zero_add _
    show tu { D with nx := Pv (i + 1), ct := Pv (i + 1), bk := D.nx } (σ'.set j (some (.int ((0 : Int) + (i : Int))))) H'
    rw [e0]
    exact hs i σ' H' hi p) hd
theorem q_forX {j : Nat} {R : Nat → Hp → Prop} (h : EvX te σ H (fun v H' => ∃ n : Nat, v = .int ((n : Nat) : Int) ∧ n ≤ 100000 ∧ R n H')) (k : ∀ n H1, R n H1 → ∃ Pv : Nat → L2.St → Hp → Prop, Pv 0 σ H1 ∧ (∀ (i : Nat) σ' H', i < n → Pv i σ' H' → tu { D with nx := Pv (i + 1), ct := Pv (i + 1), bk := tz D } (σ'.set j (some (.int ((i : Nat) : Int)))) H') ∧ ∀ σ' H', Pv n σ' H' → tz D σ' H') :
    tSeq (tFor (iRng1 (tCons te tNil)) (gName j) tu) tz D σ H := s_forX (D := { D with nx := tz D }) h k
theorem flat_strs : ∀ zs : List Str, (zs.map V.str).all flatV = true
  | [] => rfl
  | z :: zs => by
    show (true && (zs.map V.str).all flatV) = true
    rw [flat_strs zs]
    rfl
theorem inV_strs {z : Str} {zs : List Str} : inV (.str z) (zs.map V.str) = decide (z ∈ zs) := by
  by_cases h : z ∈ zs
  · rw [decide_eq_true h]
    refine List.any_eq_true.mpr ⟨.str z, List.mem_map.mpr ⟨z, h, rfl⟩, ?_⟩
    show (z == z) = true
    exact beq_self_eq_true z
  · rw [decide_eq_false h]
    cases hh : inV (.str z) (zs.map V.str) with
    | false => rfl
    | true =>
      obtain ⟨u, hu, he⟩ := List.any_eq_true.mp hh
      obtain ⟨y, hy, rfl⟩ := List.mem_map.mp hu
      have he : (y == z) = true := he
      rw [← beq_iff_eq.mp he] at h
      exact absurd hy h
theorem repsN_strs : ∀ zs : List Str, RepsN K H0 H (zs.map V.str) (zs.map Th.str)
  | [] => .nil
  | z :: zs => .cons (.str z) (repsN_strs zs)
/-- parameters: names, each once -/
def ParOk (least : Nat) (ts : List Th) : Prop := ∃ zs : List Str, ts = zs.map Th.str ∧ zs.length ≤ 3 ∧ zs.Nodup ∧ (∀ z ∈ zs, nameB z = true) ∧ (least = 1 → zs ≠ [])
theorem strOf_map : ∀ zs : List Str, (zs.map Th.str).map strOf = zs
  | [] => rfl
  | z :: zs => by
    show z :: (zs.map Th.str).map strOf = z :: zs
    rw [strOf_map zs]
theorem ParOk.par {least : Nat} {ts : List Th} (h : ParOk least ts) : paramB (.lst ts) = true ∧ Adm (.lst ts) := by
  obtain ⟨zs, rfl, hl, hn, hz, _⟩ := h
  refine ⟨?_, adm_lst (fun t ht => ?_) (by rw [List.length_map]; omega)⟩
  · show (decide ((zs.map Th.str).length ≤ 3) && ((zs.map Th.str).all isNameT && decide (dc ((zs.map Th.str).map strOf) = (zs.map Th.str).length))) = true
    rw [strOf_map, List.length_map, decide_eq_true hl, decide_eq_true ((dc_nodup zs).mpr hn), Bool.true_and, Bool.and_true]
    refine List.all_eq_true.mpr fun t ht => ?_
    obtain ⟨z, hz2, rfl⟩ := List.mem_map.mp ht
    exact hz z hz2
  · obtain ⟨z, hz2, rfl⟩ := List.mem_map.mp ht
    exact name_adm (hz z hz2)
def SpParams (K : PySem.W.Frag) : Sp := fun vs H Q _ => ∃ s sc least, vs = [.ref s, .int ((least : Nat) : Int)] ∧ least ≤ 1 ∧ SrcAt H s sc ∧ ∀ v ts H', RepN K H H' v (.lst ts) → ParOk least ts → Dr s sc H H' → Q v H'
theorem f_params (z : Cz w K mg) : Cl P w K mg base 3 "_law_params" (SpParams K) := by
  have c__law_draw := f_draw (P := P) (base := base) z
  have c__law_name := f_nameV (P := P) (base := base) z
  refine cal_of (k := 2) z.fn__law_params z.glo__law_params K0.c__law_params (fun vs H Q E h => ?_) (fun cdv A outer s H vs Q _ hr h => ?_)
  · obtain ⟨s, sc, least, rfl, _⟩ := h
    rfl
  · obtain ⟨s, sc, least, rfl, hle, S, k⟩ := h
    refine ⟨_, (pss_cons (ps_set (i := 2) K0.c__law_params.nd rfl (.inl rfl) (pe_lst pa_nil))
      (pss_cons (ps_for PassesOwn.never rfl (pi_range1 (by rfl) z.free_range (pa_cons (pe_op op_add (pv 1) (pe_c c__law_draw hr (by first | decide | omega) (by rfl) (pa_cons (pv 0) (pa_cons (pe_op op_sub pe_int (pv 1)) pa_nil)))) pa_nil)) (pg_name (i := 3) K0.c__law_params.nd rfl (.inl rfl)) (pss_cons (ps_set (i := 4) K0.c__law_params.nd rfl (.inl rfl) (pe_c c__law_name hr (by first | decide | omega) (by rfl) (pa_cons (pv 0) pa_nil)))
      (pss_one (ps_if (pt_cmpR op_notIn_seq (pv 4) (pv 2) (by rfl)) (pss_one (ps_expr (pe_bm PySem.F.plainAttrs_list PySem.F.slot_list_append PySem.F.type_list_append mt_append (pv 2) (pa_cons (pv 4) pa_nil)))) pss_nil))))
      (pss_one (ps_ret (pv 2))))), ?_⟩
    have n0 := S.some
    refine q_asgL (el_lst ea_nil (by simp)) fun p H1 hp e1 h1 => ?_
    have S1 := S.mono e1
    have np : p ≠ s := fun q => n0 (q ▸ hp)
    have npc : p ≠ sc.a := fun q => by
      obtain ⟨cs, i, c, st, n, no, ma, _, h2, _⟩ := S
      rw [← q, hp] at h2
      cases h2
    refine q_forX (R := fun n H' => least ≤ n ∧ n ≤ 3 ∧ Dr s sc H1 H') ((EvX.op (R := fun v H' => ∃ n : Nat, v = .int ((n : Nat) : Int) ∧ n ≤ 100000 ∧ least ≤ n ∧ n ≤ 3 ∧ Dr s sc H1 H') (R2 := fun x v H' => x = .int ((least : Nat) : Int) ∧ ∃ d : Nat, v = .int ((d : Nat) : Int) ∧ d < 4 - least ∧ Dr s sc H1 H') (EvX.of (ev_var rfl)) (fun x H6 ⟨hx, e6⟩ => (x_draw (m := 4 - (least : Nat)) (ev_var rfl) (ev_op ev_c (ev_var rfl) rv_I0) (S1.mono e6) (by omega) (by omega)).imp fun v H7 ⟨d, hv, d0, d1, d7⟩ => ⟨hx, d.toNat, by rw [hv, Int.toNat_of_nonneg d0], by omega, (Dr.of S1 e6).trans d7⟩) fun x H6 y H7 _ ⟨hx, d, hy, hd, d7⟩ Q6 q6 => ⟨_, _, hx, hy, q6 _ H7 ⟨least + d, by congr 1, by omega, by omega, by omega, d7⟩⟩)) fun n H2 ⟨hn1, hn2, d2⟩ => ?_
    refine ⟨fun i σ' H' => (∃ q3 q4, σ' = [some (.ref s), some (.int ((least : Nat) : Int)), some (.ref p), q3, q4]) ∧ ExO s H H' ∧ SrcAt H' s sc ∧ ∃ zs : List Str, H' p = some (.lst (zs.map V.str)) ∧ zs.length ≤ i ∧ zs.Nodup ∧ (∀ z ∈ zs, nameB z = true) ∧ (0 < i → zs ≠ []), ⟨⟨_, _, rfl⟩, (ExO.of e1).trans d2.1, d2.2, [], d2.at h1 np, Nat.le_refl _, List.nodup_nil, fun z h => (List.not_mem_nil h).elim, fun h => absurd h (Nat.lt_irrefl _)⟩, fun i σ' H' hi hP => ?_, fun σ' H' hP => ?_⟩
    · obtain ⟨⟨q3, q4, rfl⟩, p1, p2, zs, p3, p4, p5, p6, p7⟩ := hP
      refine EvX.q_asg (dx_nameV (K := K) (H0 := H') (ev_var rfl) p2) fun nv H3 ⟨nt, rn, ⟨zn, hnt, hzn⟩, d3⟩ => ?_
      subst hnt
      cases rn
      have h3 := d3.at p3 np
      have p1 := p1.trans d3.1
      refine s_when (b := !decide (zn ∈ zs)) (et_test (ev_is (ev_op (ev_var rfl) (ev_var rfl) (rv_niL (sq_of h3) rfl (flat_strs zs))) (by rw [inV_strs]))) (fun hb H4 e4 => ?_) (fun hb H4 e4 => ?_)
      · have hnm : ¬ zn ∈ zs := by simpa using hb
        refine s_app (e4 _ _ h3) (ev_var rfl) (ev_var rfl) (by rw [List.length_map]; omega) fun H5 e5 => ?_
        have e45 := e4.trans e5
        refine ⟨⟨_, _, rfl⟩, (p1.trans (ExO.of e45)).mut hp, (d3.2.mono e45).updD np npc, zs ++ [zn], by rw [upd_same, List.map_append]; rfl, by rw [List.length_append]; show zs.length + 1 ≤ i + 1; omega, ?_, fun z hz => ?_, fun _ q => by simp at q⟩
        · refine List.nodup_append.mpr ⟨p5, by simp, fun a ha b hb2 => ?_⟩
          rw [List.mem_singleton.mp hb2]
          rintro rfl
          exact hnm ha
        · rcases List.mem_append.mp hz with hz | hz
          · exact p6 z hz
          · rw [List.mem_singleton.mp hz]
            exact hzn
      · have hm : zn ∈ zs := by simpa using hb
        exact ⟨⟨_, _, rfl⟩, p1.trans (ExO.of e4), d3.2.mono e4, zs, e4 _ _ h3, by omega, p5, p6, fun _ q => by rw [q] at hm; exact (List.not_mem_nil hm).elim⟩
    · obtain ⟨⟨q3, q4, rfl⟩, p1, p2, zs, p3, p4, p5, p6, p7⟩ := hP
      exact s_ret (ev_var rfl) fun H3 e3 => k _ _ H3 (.lst hp (e3 _ _ p3) (repsN_strs zs)) ⟨zs, rfl, by omega, p5, p6, fun h => p7 (by omega)⟩ ⟨p1.trans (ExO.of e3), p2.mono e3⟩
theorem dx_params {E : XK} {least : Nat} (hl : least ≤ 1) (dm : Dm H0 H) (ha : Ev ta σ H (.ref s)) (hb : Ev tb σ H (.int ((least : Nat) : Int))) (S : SrcAt H s sc) : DX K s sc H0 (tCall (SpParams K) [] E (tCons ta (tCons tb tNil))) σ H (fun t => ∃ ts, t = .lst ts ∧ ParOk least ts) := fun Q q =>
  ea_cons ha (ea_cons hb ea_nil) H (Ex.refl H) _ fun H2 e2 => ⟨s, sc, least, rfl, hl, S.mono e2, fun v ts H3 r hp d => q _ H3 ⟨.lst ts, r.base (dm.trans (Dm.of e2)), ⟨ts, rfl, hp⟩, (Dr.of S e2).trans d⟩⟩
theorem dx_phrase {E : XK} (ha : Ev ta σ H (.ref s)) (S : SrcAt H s sc) : DX K s sc H0 (tCall (SpPhrase K) [] E (tCons ta tNil)) σ H (fun t => ∃ z : Str, t = .str z ∧ isPhraseT (.str z) = true) := fun Q q =>
  ea_cons ha ea_nil H (Ex.refl H) _ fun H2 e2 => ⟨s, sc, rfl, S.mono e2, fun z H3 hz r => q _ H3 ⟨.str z, .str z, ⟨z, rfl, hz⟩, (Dr.of S e2).trans r⟩⟩
/-- [..][draw(m)] with m at most the length -/
theorem x_pickLt {E : XK} {m : Int} {xs : List V} {te : TE} (hl : EvL te σ H xs) (h0 : Ev ta σ H (.ref s)) (h1 : Ev tb σ H (.int m)) (S : SrcAt H s sc) (hm : m ≤ (xs.length : Nat)) (m0 : 0 < m) (m1 : m < 1073741824) :
    EvX (tOp (rIxL K) te (tCall (SpDraw K) [] E (tCons ta (tCons tb tNil)))) σ H (fun v H' => (∃ i : Nat, (i : Int) < m ∧ xs[i]? = some v) ∧ Dr s sc H H') := fun Q q => hl H (Ex.refl H) _ fun p H1 hp e1 h1' => by
  refine (x_draw (K := K) (h0.mono e1) (h1.mono e1) (S.mono e1) m0 m1) _ fun v H2 ⟨d, hv, d0, d1, dr⟩ => ?_
  obtain ⟨i, rfl⟩ := Int.eq_ofNat_of_zero_le d0
  have hi : i < xs.length := by omega
  have np : p ≠ s := fun zz => S.some (zz ▸ hp)
  exact ⟨p, xs, ((i : Nat) : Int), xs[i], rfl, hv, sq_of (dr.at h1' np), atI_nat (by simp), q _ H2 ⟨⟨i, d1, by simp [hi]⟩, (Dr.of S e1).trans dr⟩⟩
def SpCall (K : PySem.W.Frag) : Sp := fun vs H Q _ => ∃ s sc r, vs = [.ref s, .str r] ∧ SrcAt H s sc ∧ ∀ v t H', RepN K H H' v t → (∀ l, SimOk r l t) → Dr s sc H H' → Q v H'
theorem ev_meth {i : Nat} {r : Str} (h : σ[i]? = some (some (.str r))) : Ev (tOp rEq (tVar i) (tC (.str "method"))) σ H (.bl (decide (r = "method"))) := ev_op (ev_var h) ev_c rv_sEq
theorem f_call (z : Cz w K mg) : Cl P w K mg base 10 "_law_call" (SpCall K) := by
  have c__law_draw := f_draw (P := P) (base := base) z
  have c__law_name := f_nameV (P := P) (base := base) z
  have c__law_expression := f_expression (P := P) (base := base) z 5
  refine cal_of (k := 9) z.fn__law_call z.glo__law_call K0.c__law_call (fun vs H Q E h => ?_) (fun cdv A outer s H vs Q _ hr h => ?_)
  · obtain ⟨s, sc, r, rfl, _⟩ := h
    rfl
  · obtain ⟨s, sc, r, rfl, S, k⟩ := h
    refine ⟨_, (pss_cons (ps_set (i := 2) K0.c__law_call.nd rfl (.inl rfl) (pe_ix (show IxR _ (rIxL K) from ix_list) (pe_lst (pa_cons pe_str (pa_cons pe_str (pa_cons pe_str (pa_cons pe_str (pa_cons pe_str pa_nil)))))) (pe_c c__law_draw hr (by first | decide | omega) (by rfl) (pa_cons (pv 0) (pa_cons (pe_op op_sub pe_int (pe_callTy call_int1 (by rfl) z.free_int (by decide +kernel) (pa_cons (pe_cmpR op_eq (pv 1) pe_str (nomark _)) pa_nil))) pa_nil))) (fun _ _ => rfl)))
      (pss_cons (ps_set (i := 3) K0.c__law_call.nd rfl (.inl rfl) pe_non)
      (pss_cut (ps_if (PW.pt (pw_or (pt_cmpR op_eq (pv 2) pe_str (nomark _)) (pw_or1 (pt_cmpR op_eq (pv 2) pe_str (nomark _))))) (pss_one (ps_set (i := 3) K0.c__law_call.nd rfl (.inl rfl) (pe_c c__law_name hr (by first | decide | omega) (by rfl) (pa_cons (pv 0) pa_nil)))) pss_nil)
      (pss_cons (ps_set (i := 4) K0.c__law_call.nd rfl (.inl rfl) (pe_c c__law_expression hr (by first | decide | omega) (by rfl) (pa_cons (pv 0) (pa_cons pe_int (pa_cons (pe_cmpR op_eq (pv 1) pe_str (nomark _)) pa_nil)))))
      (pss_cons (ps_set (i := 5) K0.c__law_call.nd rfl (.inl rfl) (pe_c c__law_draw hr (by first | decide | omega) (by rfl) (pa_cons (pv 0) (pa_cons pe_int pa_nil))))
      (pss_one (ps_ret (pe_tup (pa_cons pe_str (pa_cons (pv 2) (pa_cons (pv 3) (pa_cons (pv 4) (pa_cons (pe_lc (own := [("_law_k", 6)]) rfl K0.c__law_call.nd (pi_range1 (by rfl) z.free_range (pa_cons (pv 5) pa_nil)) (blkOk_by (N := N__law_call) (sc := defScope s__law_call) (by decide +kernel)) (fun _ _ _ _ _ => (pg_name (i := 6) K0.c__law_call.nd rfl (.inl rfl))) (fun _ _ _ _ _ => pts_nil) (fun _ _ _ _ _ => (pe_c c__law_expression hr (by first | decide | omega) (by rfl) (pa_cons (pv 0) (pa_cons pe_int (pa_cons (pe_cmpR op_eq (pv 1) pe_str (nomark _)) pa_nil)))))) pa_nil))))))))))))), ?_⟩
    have n0 := S.some
    refine EvX.q_asg (x_pickLt (m := 5 - (if decide (r = "top") then 1 else 0)) (el_lst (ea_cons ev_c (ea_cons ev_c (ea_cons ev_c (ea_cons ev_c (ea_cons ev_c ea_nil))))) (by decide)) (ev_var rfl) (ev_op ev_c (ev_intB (ev_op (ev_var rfl) ev_c rv_sEq)) rv_I0) S (by split <;> simp) (by split <;> omega) (by split <;> omega)) fun v H1 ⟨⟨i, hi, hv⟩, d1⟩ => ?_
    have hhow : ∃ how : Str, v = .str how ∧ how ∈ (["let", "set", "drop", "say", "give"] : List Str) ∧ (r = "top" → how ≠ "give") := by
      have i5 : i < 5 := by
        have := (List.getElem?_eq_some_iff.mp hv).1
        simpa using this
      have : i = 0 ∨ i = 1 ∨ i = 2 ∨ i = 3 ∨ i = 4 := by omega
      rcases this with rfl | rfl | rfl | rfl | rfl
      · exact ⟨"let", (Option.some.inj hv).symm, by simp, fun _ => by decide +kernel⟩
      · exact ⟨"set", (Option.some.inj hv).symm, by simp, fun _ => by decide +kernel⟩
      · exact ⟨"drop", (Option.some.inj hv).symm, by simp, fun _ => by decide +kernel⟩
      · exact ⟨"say", (Option.some.inj hv).symm, by simp, fun _ => by decide +kernel⟩
      · refine ⟨"give", (Option.some.inj hv).symm, by simp, fun hr => ?_⟩
        rw [decide_eq_true hr, if_pos rfl] at hi
        omega
    obtain ⟨how, hv2, hmem, hgive⟩ := hhow
    subst hv2
    refine q_asg ev_c fun H2 e2 => ?_
    have d2 := d1.trans (Dr.of d1.2 e2)
    refine q_cut (M := fun σ' H' => ∃ nv nt, σ' = [some (.ref s), some (.str r), some (.str how), some nv, none, none, none] ∧ RepN K H H' nv nt ∧ CallN how nt ∧ Dr s sc H H') ?_ ?_
    · refine s_when (b := decide (how = "let") || decide (how = "set")) (et_or (et_test (ev_op (ev_var rfl) ev_c rv_sEq)) fun _ => et_test (ev_op (ev_var rfl) ev_c rv_sEq)) (fun hb H3 e3 => ?_) (fun hb H3 e3 => ?_)
      · have hh : how = "let" ∨ how = "set" := by simpa using hb
        have d3 := d2.trans (Dr.of d2.2 e3)
        refine EvX.s_asg (dx_nameV (H0 := H) (ev_var rfl) d3.2) fun nv H4 ⟨nt, rn, ⟨zn, hnt, hzn⟩, d4⟩ => ⟨nv, nt, rfl, rn, ⟨hmem, fun _ => ⟨zn, hnt, hzn⟩, fun q => absurd hh q⟩, d3.trans d4⟩
      · have hh : ¬ (how = "let" ∨ how = "set") := by simpa using hb
        exact ⟨.non, .non, rfl, .non, ⟨hmem, fun q => absurd q hh, fun _ => rfl⟩, d2.trans (Dr.of d2.2 e3)⟩
    · rintro σ' H3 ⟨nv, nt, rfl, rn, hc, d3⟩
      refine EvX.q_asg (dx_expr (n := 5) (m := decide (r = "method")) n0 d3.dm d3.2 (by decide) (ev_var rfl) ev_c (ev_meth rfl)) fun cv H4 ⟨ct, rc, fc, d4⟩ => ?_
      have rn := rn.dr n0 d3.2 d4
      have d4 := d3.trans d4
      refine EvX.q_asg (x_draw (m := 4) (ev_var rfl) ev_c d4.2 (by decide) (by decide)) fun v H5 ⟨many, hv, m0, m1, d5⟩ => ?_
      subst hv
      obtain ⟨mn, rfl⟩ := Int.eq_ofNat_of_zero_le m0
      have rn := rn.dr n0 d4.2 d5
      have rc := rc.dr n0 d4.2 d5
      have d5 := d4.trans d5
      refine EvX.ret (dx_tup (da_cons n0 (dx_str d5.2) fun H6 d6 => da_cons n0 (dx_ev (t := .str how) (F := (· = .str how)) (ev_var rfl) (.str how) rfl d6.2) fun H7 d7 => da_cons n0 (dx_ev (F := (· = nt)) (ev_var rfl) ((rn.dr n0 d5.2 d6).dr n0 d6.2 d7) rfl d7.2) fun H8 d8 => da_cons n0 (dx_ev (F := ExE r) (ev_var rfl) (((rc.dr n0 d5.2 d6).dr n0 d6.2 d7).dr n0 d7.2 d8) fc d8.2) fun H9 d9 => da_cons n0 (dx_lc (F := ExE r) n0 ((((d5.trans d6).trans d7).trans d8).trans d9).dm (ev_var rfl) (by omega) d9.2 (fun x => rfl) fun σ2 H10 hw S10 => dx_expr S10.some (fun a h => h) S10 (by decide) (ev_var ?_) ev_c (ev_meth ?_)) fun H10 d10 => da_nil d10.2) fun ts h => ?_) fun v H11 ⟨t, rt, ht, d11⟩ => ?_
      · exact wipe_some2 (vs := [6]) (by rw [show wipe σ2 [6] = _ from hw]; rfl)
      · exact wipe_some2 (vs := [6]) (by rw [show wipe σ2 [6] = _ from hw]; rfl)
      · obtain ⟨t1, r1, rfl, _, t2, r2, rfl, _, t3, r3, rfl, _, h⟩ := h
        obtain ⟨a, b, rfl, _⟩ := pair_len h
        simp
      · obtain ⟨us, rfl, ⟨t1, r1, rfl, rfl, t2, r2, rfl, rfl, t3, r3, rfl, rfl, h⟩⟩ := ht
        obtain ⟨a, b, rfl, fa, ⟨as, rfl, hl, hf⟩⟩ := pair_len h
        exact k v _ H11 rt (fun l => sim_call hc hgive fa (by omega) hf) (d5.trans d11)
theorem dx_call {E : XK} {r : Str} (dm : Dm H0 H) (ha : Ev ta σ H (.ref s)) (hb : Ev tb σ H (.str r)) (S : SrcAt H s sc) : DX K s sc H0 (tCall (SpCall K) [] E (tCons ta (tCons tb tNil))) σ H (fun t => ∀ l, SimOk r l t) := fun Q q =>
  ea_cons ha (ea_cons hb ea_nil) H (Ex.refl H) _ fun H2 e2 => ⟨s, sc, r, rfl, S.mono e2, fun v t H3 rt hp d => q _ H3 ⟨t, rt.base (dm.trans (Dm.of e2)), hp, (Dr.of S e2).trans d⟩⟩
end
end K0
/-! ## K4C -/
set_option Elab.async false
set_option linter.all false
set_option maxRecDepth 100000
set_option maxHeartbeats 4000000
namespace K0
open PySem PySem.Spec PyProof.Rows L2 Evl RZ KB
section
variable {P : Program} {w : World} {K : PySem.W.Frag} {mg : Str → Option Value} {base : Heap} {σ : L2.St} {H H' H0 : Hp} {ta tb tc td te tl tv tk ti to : TE} {tr : TA} {x y kv v : V} {X0 : XK} {t u : TT} {tu tz : TS} {D : Ends} {g : TG} {R : V → Hp → Prop} {s : Addr} {sc sc' : Sc}
def SpSimple (K : PySem.W.Frag) : Sp := fun vs H Q _ => ∃ s sc r l, vs = [.ref s, .str r, .bl l] ∧ SrcAt H s sc ∧ ∀ v t H', RepN K H H' v t → SimOk r l t → Dr s sc H H' → Q v H'
theorem dx_simple {E : XK} {r : Str} {l : Bool} (dm : Dm H0 H) (ha : Ev ta σ H (.ref s)) (hb : Ev tb σ H (.str r)) (hc : Ev tc σ H (.bl l)) (S : SrcAt H s sc) : DX K s sc H0 (tCall (SpSimple K) [] E (tCons ta (tCons tb (tCons tc tNil)))) σ H (SimOk r l) := fun Q q =>
  ea_cons ha (ea_cons hb (ea_cons hc ea_nil)) H (Ex.refl H) _ fun H2 e2 => ⟨s, sc, r, l, rfl, S.mono e2, fun v t H3 rt hp d => q _ H3 ⟨t, rt.base (dm.trans (Dm.of e2)), hp, (Dr.of S e2).trans d⟩⟩
theorem three_len {F G J : Th → Prop} {ts : List Th} (h : ∃ t r, ts = t :: r ∧ F t ∧ ∃ t r2, r = t :: r2 ∧ G t ∧ ∃ t2 r3, r2 = t2 :: r3 ∧ J t2 ∧ r3 = []) : ∃ a b c, ts = [a, b, c] ∧ F a ∧ G b ∧ J c := by
  obtain ⟨t, r, rfl, f, h⟩ := h
  obtain ⟨a, b, rfl, fa, fb⟩ := pair_len h
  exact ⟨t, a, b, rfl, f, fa, fb⟩
theorem f_simple (z : Cz w K mg) : Cl P w K mg base 11 "_law_simple" (SpSimple K) := by
  have c__law_draw := f_draw (P := P) (base := base) z
  have c__law_name := f_nameV (P := P) (base := base) z
  have c__law_phrase := f_phrase (P := P) (base := base) z
  have c__law_expression := f_expression (P := P) (base := base) z 5
  have c__law_call := f_call (P := P) (base := base) z
  refine cal_of (k := 10) z.fn__law_simple z.glo__law_simple K0.c__law_simple (fun vs H Q E h => ?_) (fun cdv A outer s H vs Q _ hr h => ?_)
  · obtain ⟨s, sc, r, l, rfl, _⟩ := h
    rfl
  · obtain ⟨s, sc, r, l, rfl, S, k⟩ := h
    refine ⟨_, (pss_cons (ps_set (i := 3) K0.c__law_simple.nd rfl (.inl rfl) (pe_c c__law_draw hr (by first | decide | omega) (by rfl) (pa_cons (pv 0) (pa_cons pe_int pa_nil))))
      (pss_cons (ps_if (pt_cmpR op_eq (pv 3) pe_int (nomark _)) (pss_one (ps_ret (pe_tup (pa_cons pe_str (pa_cons (pe_c c__law_name hr (by first | decide | omega) (by rfl) (pa_cons (pv 0) pa_nil)) (pa_cons (pe_c c__law_phrase hr (by first | decide | omega) (by rfl) (pa_cons (pv 0) pa_nil)) pa_nil)))))) pss_nil)
      (pss_cons (ps_if (PW.pt (pw_and (pt_cmpR op_eq (pv 3) pe_int (nomark _)) (pw_and1 (pt_val (pv 2))))) (pss_one (ps_ret (pe_tup (pa_cons pe_str pa_nil)))) pss_nil)
      (pss_cons (ps_if (PW.pt (pw_or (pt_cmpR op_eq (pv 3) pe_int (nomark _)) (pw_or1 (pt_cmpR op_eq (pv 3) pe_int (nomark _))))) (pss_one (ps_ret (pe_c c__law_call hr (by first | decide | omega) (by rfl) (pa_cons (pv 0) (pa_cons (pv 1) pa_nil))))) pss_nil)
      (pss_cons (ps_set (i := 4) K0.c__law_simple.nd rfl (.inl rfl) (pe_c c__law_expression hr (by first | decide | omega) (by rfl) (pa_cons (pv 0) (pa_cons pe_int (pa_cons (pe_cmpR op_eq (pv 1) pe_str (nomark _)) pa_nil)))))
      (pss_cons (ps_if (PW.pt (pw_or (pt_cmpR op_eq (pv 3) pe_int (nomark _)) (pw_or1 (pt_cmpR op_eq (pv 3) pe_int (nomark _))))) (pss_one (ps_ret (pe_tup (pa_cons (pe_ix (show IxR _ (rIxL K) from ix_list) (pe_lst (pa_cons pe_str (pa_cons pe_str pa_nil))) (pe_op op_sub (pv 3) pe_int) (fun _ _ => rfl)) (pa_cons (pe_c c__law_name hr (by first | decide | omega) (by rfl) (pa_cons (pv 0) pa_nil)) (pa_cons (pv 4) pa_nil)))))) pss_nil)
      (pss_cons (ps_if (PW.pt (pw_and (pt_cmpR op_eq (pv 3) pe_int (nomark _)) (pw_and1 (pt_cmpR op_ne (pv 1) pe_str (nomark _))))) (pss_one (ps_ret (pe_tup (pa_cons pe_str (pa_cons (pv 4) pa_nil))))) pss_nil)
      (pss_cons (ps_if (pt_cmpR op_eq (pv 3) pe_int (nomark _)) (pss_one (ps_ret (pe_tup (pa_cons pe_str (pa_cons (pv 4) (pa_cons (pe_c c__law_name hr (by first | decide | omega) (by rfl) (pa_cons (pv 0) pa_nil)) (pa_cons (pe_c c__law_expression hr (by first | decide | omega) (by rfl) (pa_cons (pv 0) (pa_cons pe_int (pa_cons (pe_cmpR op_eq (pv 1) pe_str (nomark _)) pa_nil)))) pa_nil))))))) pss_nil)
      (pss_cons (ps_if (pt_cmpR op_eq (pv 3) pe_int (nomark _)) (pss_one (ps_ret (pe_tup (pa_cons pe_str (pa_cons (pv 4) (pa_cons (pe_c c__law_expression hr (by first | decide | omega) (by rfl) (pa_cons (pv 0) (pa_cons pe_int (pa_cons (pe_cmpR op_eq (pv 1) pe_str (nomark _)) pa_nil)))) pa_nil)))))) pss_nil)
      (pss_cons (ps_if (pt_cmpR op_eq (pv 3) pe_int (nomark _)) (pss_cons (ps_set (i := 5) K0.c__law_simple.nd rfl (.inl rfl) (pe_c c__law_expression hr (by first | decide | omega) (by rfl) (pa_cons (pv 0) (pa_cons pe_int (pa_cons (pe_cmpR op_eq (pv 1) pe_str (nomark _)) pa_nil)))))
      (pss_one (ps_ret (pe_tup (pa_cons pe_str (pa_cons (pv 4) (pa_cons (pv 5) (pa_cons (pe_c c__law_expression hr (by first | decide | omega) (by rfl) (pa_cons (pv 0) (pa_cons pe_int (pa_cons (pe_cmpR op_eq (pv 1) pe_str (nomark _)) pa_nil)))) pa_nil)))))))) pss_nil)
      (pss_one (ps_ret (pe_tup (pa_cons (pe_ix (show IxR _ (rIxL K) from ix_list) (pe_lst (pa_cons pe_str (pa_cons pe_str (pa_cons pe_str pa_nil)))) (pe_op op_mod (pe_callTy call_int1 (by rfl) z.free_int (by decide +kernel) (pa_cons (pv 3) pa_nil)) pe_int) (fun _ _ => rfl)) (pa_cons (pv 4) pa_nil))))))))))))))), ?_⟩
    have n0 := S.some
    refine EvX.q_asg (x_draw (m := 13) (ev_var rfl) ev_c S (by decide) (by decide)) fun v H1 ⟨sh, hv, sh0, sh1, d1⟩ => ?_
    subst hv
    refine q_when (b := decide (sh = 0)) (et_test (ev_op (ev_var rfl) ev_c rv_iEq)) (fun hb H2 e2 => ?_) (fun hb H2 e2 => ?_)
    · have d2 := d1.trans (Dr.of d1.2 e2)
      refine EvX.ret (dx_tup (da_cons n0 (dx_str d2.2) fun H3 d3 => da_cons n0 (dx_nameV (ev_var rfl) d3.2) fun H4 d4 => da_cons n0 (dx_phrase (ev_var rfl) d4.2) fun H5 d5 => da_nil d5.2) fun ts h => ?_) fun v H6 ⟨t, rt, ht, d6⟩ => ?_
      · obtain ⟨a, b, c, rfl, _⟩ := three_len h
        simp
      · obtain ⟨us, rfl, hus⟩ := ht
        obtain ⟨a, b, c, rfl, rfl, ⟨z1, rfl, hz⟩, ⟨z2, rfl, hy⟩⟩ := three_len hus
        exact k v _ H6 rt (sim_ask hz hy) (d2.trans d6)
    have d2 := d1.trans (Dr.of d1.2 e2)
    refine q_when (b := decide (sh = 1) && l) (et_and (et_test (ev_op (ev_var rfl) ev_c rv_iEq)) fun _ => et_test (ev_var rfl)) (fun hb1 H3 e3 => ?_) (fun hb1 H3 e3 => ?_)
    · have d3 := d2.trans (Dr.of d2.2 e3)
      refine EvX.ret (dx_tup (K := K) (da_cons n0 (dx_str d3.2) fun H4 d4 => da_nil d4.2) fun ts h => ?_) fun v H6 ⟨t, rt, ht, d6⟩ => ?_
      · obtain ⟨t, r, rfl, _, rfl⟩ := h
        simp
      · obtain ⟨us, rfl, ⟨t, r, rfl, rfl, rfl⟩⟩ := ht
        exact k v _ H6 rt (sim_leave (Bool.and_eq_true_iff.mp hb1).2) (d3.trans d6)
    have d3 := d2.trans (Dr.of d2.2 e3)
    clear d1 d2 e2 e3
    refine q_when (b := decide (sh = 2) || decide (sh = 3)) (et_or (et_test (ev_op (ev_var rfl) ev_c rv_iEq)) fun _ => et_test (ev_op (ev_var rfl) ev_c rv_iEq)) (fun hb2 H4 e4 => ?_) (fun hb2 H4 e4 => ?_)
    · have d4 := d3.trans (Dr.of d3.2 e4)
      exact EvX.ret (dx_call d4.dm (ev_var rfl) (ev_var rfl) d4.2) fun v H5 ⟨t, rt, ht, d5⟩ => k v t H5 rt (ht l) (d4.trans d5)
    have d4 := d3.trans (Dr.of d3.2 e4)
    clear d3 e4
    refine EvX.q_asg (dx_expr (n := 5) (m := decide (r = "method")) n0 d4.dm d4.2 (by decide) (ev_var rfl) ev_c (ev_meth rfl)) fun ev H5 ⟨et, re, fe, d5⟩ => ?_
    have fe : ExE r et := fe
    have d5 := d4.trans d5
    clear d4
    refine q_when (b := decide (sh = 4) || decide (sh = 5)) (et_or (et_test (ev_op (ev_var rfl) ev_c rv_iEq)) fun _ => et_test (ev_op (ev_var rfl) ev_c rv_iEq)) (fun hb4 H6 e6 => ?_) (fun hb4 H6 e6 => ?_)
    · have d6 := d5.trans (Dr.of d5.2 e6)
      have hsh : sh = 4 ∨ sh = 5 := by simpa using hb4
      obtain ⟨x, hx, hm⟩ := atI_some (xs := [V.str "let", .str "set"]) (d := sh - 4) (by omega) (by simp; omega)
      have hw : ∃ u : Str, x = .str u ∧ u ∈ (["let", "set"] : List Str) := by
        simp only [List.mem_cons, List.not_mem_nil, or_false] at hm
        rcases hm with rfl | rfl
        · exact ⟨_, rfl, by simp⟩
        · exact ⟨_, rfl, by simp⟩
      obtain ⟨u, rfl, hu⟩ := hw
      refine EvX.ret (dx_tup (da_cons n0 (dx_ev (t := .str u) (F := (· = .str u)) (ev_opL1 (el_lst (ea_cons ev_c (ea_cons ev_c ea_nil)) (by decide)) (fun H10 e10 => ev_op (ev_var rfl) ev_c rv_I0) fun p H10 hp e10 => rv_ixL (sq_of hp) hx) (.str u) rfl d6.2) fun H7 d7 => da_cons n0 (dx_nameV (ev_var rfl) d7.2) fun H8 d8 => da_cons n0 (dx_ev (F := ExE r) (ev_var rfl) (((re.mono e6).dr n0 d6.2 d7).dr n0 d7.2 d8) fe d8.2) fun H9 d9 => da_nil d9.2) fun ts h => ?_) fun v H10 ⟨t, rt, ht, d10⟩ => ?_
      · obtain ⟨a, b, c, rfl, _⟩ := three_len h
        simp
      · obtain ⟨us, rfl, hus⟩ := ht
        obtain ⟨a, b, c, rfl, rfl, ⟨z1, rfl, hz⟩, fc⟩ := three_len hus
        exact k v _ H10 rt (sim_let hu hz fc) (d6.trans d10)
    have d6 := d5.trans (Dr.of d5.2 e6)
    have re := re.mono e6
    clear d5 e6
    refine q_when (b := decide (sh = 6) && !decide (V.str r = V.str "top")) (et_and (et_test (ev_op (ev_var rfl) ev_c rv_iEq)) fun _ => et_test (ev_op (ev_var rfl) ev_c (rv_ne rfl))) (fun hb6 H7 e7 => ?_) (fun hb6 H7 e7 => ?_)
    · have d7 := d6.trans (Dr.of d6.2 e7)
      have hr : r ≠ "top" := by
        rintro rfl
        have h9 := (Bool.and_eq_true_iff.mp hb6).2
        rw [decide_eq_true rfl] at h9
        cases h9
      refine EvX.ret (dx_tup (da_cons n0 (dx_str d7.2) fun H8 d8 => da_cons n0 (dx_ev (F := ExE r) (ev_var rfl) ((re.mono e7).dr n0 d7.2 d8) fe d8.2) fun H9 d9 => da_nil d9.2) fun ts h => ?_) fun v H10 ⟨t, rt, ht, d10⟩ => ?_
      · obtain ⟨a, b, rfl, _⟩ := pair_len h
        simp
      · obtain ⟨us, rfl, hus⟩ := ht
        obtain ⟨a, b, rfl, rfl, fb⟩ := pair_len hus
        exact k v _ H10 rt (sim_give hr fb) (d7.trans d10)
    have d7 := d6.trans (Dr.of d6.2 e7)
    have re := re.mono e7
    clear d6 e7
    refine q_when (b := decide (sh = 7)) (et_test (ev_op (ev_var rfl) ev_c rv_iEq)) (fun hb7 H8 e8 => ?_) (fun hb7 H8 e8 => ?_)
    · have d8 := d7.trans (Dr.of d7.2 e8)
      refine EvX.ret (dx_tup (da_cons n0 (dx_str d8.2) fun H9 d9 => da_cons n0 (dx_ev (F := ExE r) (ev_var rfl) ((re.mono e8).dr n0 d8.2 d9) fe d9.2) fun H10 d10 => da_cons n0 (dx_nameV (ev_var rfl) d10.2) fun H11 d11 => da_cons n0 (dx_expr (n := 5) (m := decide (r = "method")) n0 (((d8.trans d9).trans d10).trans d11).dm d11.2 (by decide) (ev_var rfl) ev_c (ev_meth rfl)) fun H12 d12 => da_nil d12.2) fun ts h => ?_) fun v H13 ⟨t, rt, ht, d13⟩ => ?_
      · obtain ⟨t, r, rfl, _, h⟩ := h
        obtain ⟨a, b, c, rfl, _⟩ := three_len h
        simp
      · obtain ⟨us, rfl, ⟨t1, r1, rfl, rfl, h⟩⟩ := ht
        obtain ⟨a, b, c, rfl, fa, ⟨z1, rfl, hz⟩, fc⟩ := three_len h
        exact k v _ H13 rt (sim_put fa hz fc) (d8.trans d13)
    have d8 := d7.trans (Dr.of d7.2 e8)
    have re := re.mono e8
    clear d7 e8
    refine q_when (b := decide (sh = 8)) (et_test (ev_op (ev_var rfl) ev_c rv_iEq)) (fun hb8 H9 e9 => ?_) (fun hb8 H9 e9 => ?_)
    · have d9 := d8.trans (Dr.of d8.2 e9)
      refine EvX.ret (dx_tup (da_cons n0 (dx_str d9.2) fun H10 d10 => da_cons n0 (dx_ev (F := ExE r) (ev_var rfl) ((re.mono e9).dr n0 d9.2 d10) fe d10.2) fun H11 d11 => da_cons n0 (dx_expr (n := 5) (m := decide (r = "method")) n0 ((d9.trans d10).trans d11).dm d11.2 (by decide) (ev_var rfl) ev_c (ev_meth rfl)) fun H12 d12 => da_nil d12.2) fun ts h => ?_) fun v H13 ⟨t, rt, ht, d13⟩ => ?_
      · obtain ⟨a, b, c, rfl, _⟩ := three_len h
        simp
      · obtain ⟨us, rfl, hus⟩ := ht
        obtain ⟨a, b, c, rfl, rfl, fb, fc⟩ := three_len hus
        exact k v _ H13 rt (sim_add fb fc) (d9.trans d13)
    have d9 := d8.trans (Dr.of d8.2 e9)
    have re := re.mono e9
    clear d8 e9
    refine q_when (b := decide (sh = 9)) (et_test (ev_op (ev_var rfl) ev_c rv_iEq)) (fun hb9 H10 e10 => ?_) (fun hb9 H10 e10 => ?_)
    · have d10 := d9.trans (Dr.of d9.2 e10)
      refine EvX.q_asg (dx_expr (n := 5) (m := decide (r = "method")) n0 d10.dm d10.2 (by decide) (ev_var rfl) ev_c (ev_meth rfl)) fun gv H11 ⟨gt, rg, fg, d11⟩ => ?_
      have fg : ExE r gt := fg
      have re := (re.mono e10).dr n0 d10.2 d11
      have d11 := d10.trans d11
      refine EvX.ret (dx_tup (da_cons n0 (dx_str d11.2) fun H12 d12 => da_cons n0 (dx_ev (F := ExE r) (ev_var rfl) (re.dr n0 d11.2 d12) fe d12.2) fun H13 d13 => da_cons n0 (dx_ev (F := ExE r) (ev_var rfl) ((rg.dr n0 d11.2 d12).dr n0 d12.2 d13) fg d13.2) fun H14 d14 => da_cons n0 (dx_expr (n := 5) (m := decide (r = "method")) n0 (((d11.trans d12).trans d13).trans d14).dm d14.2 (by decide) (ev_var rfl) ev_c (ev_meth rfl)) fun H15 d15 => da_nil d15.2) fun ts h => ?_) fun v H16 ⟨t, rt, ht, d16⟩ => ?_
      · obtain ⟨t, r, rfl, _, h⟩ := h
        obtain ⟨a, b, c, rfl, _⟩ := three_len h
        simp
      · obtain ⟨us, rfl, ⟨t1, r1, rfl, rfl, h⟩⟩ := ht
        obtain ⟨a, b, c, rfl, fa, fb, fc⟩ := three_len h
        exact k v _ H16 rt (sim_place fa fb fc) (d11.trans d16)
    have d10 := d9.trans (Dr.of d9.2 e10)
    have re := re.mono e10
    obtain ⟨x, hx, hm⟩ := atI_some (xs := [V.str "cut", .str "raise", .str "say"]) (d := sh % 3) (Int.emod_nonneg _ (by decide)) (Int.emod_lt_of_pos _ (by decide))
    have hw : ∃ u : Str, x = .str u ∧ u ∈ (["cut", "raise", "say"] : List Str) := by
      simp only [List.mem_cons, List.not_mem_nil, or_false] at hm
      rcases hm with rfl | rfl | rfl
      · exact ⟨_, rfl, by simp⟩
      · exact ⟨_, rfl, by simp⟩
      · exact ⟨_, rfl, by simp⟩
    obtain ⟨u, rfl, hu⟩ := hw
    refine EvX.ret (dx_tup (da_cons n0 (dx_ev (t := .str u) (F := (· = .str u)) (ev_opL1 (el_lst (ea_cons ev_c (ea_cons ev_c (ea_cons ev_c ea_nil))) (by decide)) (fun H10 e10 => ev_op (ev_int1 (ev_var rfl)) ev_c (rv_mod (by decide))) fun p H10 hp e10 => rv_ixL (sq_of hp) hx) (.str u) rfl d10.2) fun H11 d11 => da_cons n0 (dx_ev (F := ExE r) (ev_var rfl) (re.dr n0 d10.2 d11) fe d11.2) fun H12 d12 => da_nil d12.2) fun ts h => ?_) fun v H13 ⟨t, rt, ht, d13⟩ => ?_
    · obtain ⟨a, b, rfl, _⟩ := pair_len h
      simp
    · obtain ⟨us, rfl, hus⟩ := ht
      obtain ⟨a, b, rfl, rfl, fb⟩ := pair_len hus
      exact k v _ H13 rt (sim_one hu fb) (d10.trans d13)
end
end K0
/-! ## K4D -/
set_option Elab.async false
set_option linter.all false
set_option maxRecDepth 100000
set_option maxHeartbeats 4000000
namespace K0
open PySem PySem.Spec PyProof.Rows L2 Evl RZ KB
/-! statements with blocks -/
/-- a block at depth 8 - g of the code r, within a while or not -/
def BlkOk (g : Nat) (r : Str) (l : Bool) (ts : List Th) : Prop := ts.length ≤ 12 ∧ ∀ t ∈ ts, OkS g r l t
theorem okS_adm : ∀ {g : Nat} {r : Str} {l : Bool} {t : Th}, OkS g r l t → Adm t
  | 0, _, _, _, h => h.elim
  | _ + 1, _, _, _, h => h.1
section
variable {g : Nat} {r : Str} {l : Bool} {e : Th} {z : Str} {ps ts us vs : List Th} {E : Th → Bool}
theorem BlkOk.adm (h : BlkOk g r l ts) : Adm (.lst ts) := adm_lst (fun t ht => okS_adm (h.2 t ht)) (by have := h.1; omega)
theorem p_block : partB E "block" (.lst ts) = true := by kernel_rfl
theorem BlkOk.ex (h : BlkOk g r l ts) : ∃ us, Th.lst ts = .lst us ∧ us.length ≤ 12 ∧ ∀ u ∈ us, OkS g r l u := ⟨ts, rfl, h⟩
theorem bls_nil {P : Th → Prop} : ∀ b ∈ ([] : List Th), P b := fun _ h => (List.not_mem_nil h).elim
theorem bls_cons {P : Th → Prop} {b : Th} {bs : List Th} (h : P b) (hs : ∀ x ∈ bs, P x) : ∀ x ∈ b :: bs, P x := fun x hx => by
  rcases List.mem_cons.mp hx with rfl | hx
  · exact h
  · exact hs x hx
theorem inR_id {w : Str} (h1 : decide (w = "def") = false) (h2 : decide (w = "class") = false) : inR w r = r := by
  unfold inR
  rw [if_neg (of_decide_eq_false h1), if_neg (of_decide_eq_false h2)]
theorem inL_id {w : Str} (h1 : decide (w = "def") = false) (h2 : decide (w = "class") = false) (h3 : decide (w = "while") = false) : inL w l = l := by
  unfold inL
  rw [if_neg (of_decide_eq_false h1), if_neg (of_decide_eq_false h2), h3, Bool.or_false]
theorem ok_while (hg : 1 ≤ g) (he : ExE r e) (hb : BlkOk g r true ts) : OkS (g + 1) r l (.tup [.str "while", e, .lst ts]) ∧ cntS (g + 1) (.tup [.str "while", e, .lst ts]) = 1 + cntL g ts := by
  refine ⟨ok_of (ks := ["expression", "block"]) [e] [.lst ts] (lookS (by decide +kernel)) rfl (zp_cons he.part (zp_cons p_block zp_nil)) (by kernel_rfl) (by decide) (adm_cons he.adm (adm_cons hb.adm adm_nil)) (by kernel_rfl) (by kernel_rfl) (exl_cons he exl_nil) (ne_w (by decide +kernel)) (ne_t (by decide +kernel) (by decide +kernel)) (by simp) (fun q => by omega) (bls_cons ?_ bls_nil), ?_⟩
  · rw [inR_id (by decide +kernel) (by decide +kernel), show inL "while" l = true by unfold inL; rw [if_neg (by decide +kernel), if_neg (by decide +kernel), decide_eq_true rfl, Bool.or_true]]
    exact hb.ex
  · rw [cnt_of [.lst ts] (by kernel_rfl)]
    rfl
theorem ok_if (hg : 1 ≤ g) (he : ExE r e) (hb : BlkOk g r l ts) (hb2 : BlkOk g r l us) : OkS (g + 1) r l (.tup [.str "if", e, .lst ts, .lst us]) ∧ cntS (g + 1) (.tup [.str "if", e, .lst ts, .lst us]) = 1 + (cntL g ts + cntL g us) := by
  have hL : inL "if" l = l := inL_id (by decide +kernel) (by decide +kernel) (by decide +kernel)
  have hR : inR "if" r = r := inR_id (by decide +kernel) (by decide +kernel)
  refine ⟨ok_of (ks := ["expression", "block", "block"]) [e] [.lst ts, .lst us] (lookS (by decide +kernel)) rfl (zp_cons he.part (zp_cons p_block (zp_cons p_block zp_nil))) (by kernel_rfl) (by decide) (adm_cons he.adm (adm_cons hb.adm (adm_cons hb2.adm adm_nil))) (by kernel_rfl) (by kernel_rfl) (exl_cons he exl_nil) (ne_w (by decide +kernel)) (ne_t (by decide +kernel) (by decide +kernel)) (by simp) (fun q => by omega) (bls_cons ?_ (bls_cons ?_ bls_nil)), ?_⟩
  · rw [hL, hR]
    exact hb.ex
  · rw [hL, hR]
    exact hb2.ex
  · rw [cnt_of [.lst ts, .lst us] (by kernel_rfl)]
    rfl
theorem ok_def (hg : 1 ≤ g) (hz : nameB z = true) (hp : ParOk 0 ps) (hb : BlkOk g "def" false ts) : OkS (g + 1) r l (.tup [.str "def", .str z, .lst ps, .lst ts]) ∧ cntS (g + 1) (.tup [.str "def", .str z, .lst ps, .lst ts]) = 1 + cntL g ts := by
  refine ⟨ok_of (ks := ["name", "parameters", "block"]) [] [.lst ts] (lookS (by decide +kernel)) rfl (zp_cons (name_part hz) (zp_cons (by rw [p_para]; exact hp.par.1) (zp_cons p_block zp_nil))) (by kernel_rfl) (by decide) (adm_cons (name_adm hz) (adm_cons hp.par.2 (adm_cons hb.adm adm_nil))) (by kernel_rfl) (by kernel_rfl) exl_nil (ne_w (by decide +kernel)) (ne_t (by decide +kernel) (by decide +kernel)) (by simp) (fun q => by omega) (bls_cons ?_ bls_nil), ?_⟩
  · rw [show inR "def" r = "def" by unfold inR; rw [if_pos rfl], show inL "def" l = false by unfold inL; rw [if_pos rfl]]
    exact hb.ex
  · rw [cnt_of [.lst ts] (by kernel_rfl)]
    rfl
theorem ok_try (hg : 1 ≤ g) (hz : nameB z = true) (hb : BlkOk g r l ts) (hb2 : BlkOk g r l us) (hb3 : BlkOk g r l vs) : OkS (g + 1) r l (.tup [.str "try", .lst ts, .str z, .lst us, .lst vs]) ∧ cntS (g + 1) (.tup [.str "try", .lst ts, .str z, .lst us, .lst vs]) = 1 + (cntL g ts + (cntL g us + cntL g vs)) := by
  have hL : inL "try" l = l := inL_id (by decide +kernel) (by decide +kernel) (by decide +kernel)
  have hR : inR "try" r = r := inR_id (by decide +kernel) (by decide +kernel)
  refine ⟨ok_of (ks := ["block", "perhaps a name", "block", "block"]) [] [.lst ts, .lst us, .lst vs] (lookS (by decide +kernel)) rfl (zp_cons p_block (zp_cons (by rw [p_perh]; exact hz) (zp_cons p_block (zp_cons p_block zp_nil)))) (by kernel_rfl) (by decide) (adm_cons hb.adm (adm_cons (name_adm hz) (adm_cons hb2.adm (adm_cons hb3.adm adm_nil)))) (by kernel_rfl) (by kernel_rfl) exl_nil (ne_w (by decide +kernel)) (ne_t (by decide +kernel) (by decide +kernel)) (by simp) (fun q => by omega) (bls_cons ?_ (bls_cons ?_ (bls_cons ?_ bls_nil))), ?_⟩
  · rw [hL, hR]
    exact hb.ex
  · rw [hL, hR]
    exact hb2.ex
  · rw [hL, hR]
    exact hb3.ex
  · rw [cnt_of [.lst ts, .lst us, .lst vs] (by kernel_rfl)]
    rfl
theorem ok_last {t : Th} (hg : 1 ≤ g) (hb : BlkOk g r l ts) (h3 : OkS g r l t) : OkS (g + 1) r l (.tup [.str "try", .lst ts, .non, .lst [], .lst [t]]) ∧ cntS (g + 1) (.tup [.str "try", .lst ts, .non, .lst [], .lst [t]]) = 1 + (cntL g ts + cntS g t) := by
  have hL : inL "try" l = l := inL_id (by decide +kernel) (by decide +kernel) (by decide +kernel)
  have hR : inR "try" r = r := inR_id (by decide +kernel) (by decide +kernel)
  have hb3 : BlkOk g r l [t] := ⟨by simp, fun x hx => by rw [List.mem_singleton.mp hx]; exact h3⟩
  have hb2 : BlkOk g r l [] := ⟨by simp, fun x hx => (List.not_mem_nil hx).elim⟩
  refine ⟨ok_of (ks := ["block", "perhaps a name", "block", "block"]) [] [.lst ts, .lst [], .lst [t]] (lookS (by decide +kernel)) rfl (zp_cons p_block (zp_cons (by rw [p_perh]; rfl) (zp_cons p_block (zp_cons p_block zp_nil)))) (by kernel_rfl) (by decide) (adm_cons hb.adm (adm_cons adm_non (adm_cons hb2.adm (adm_cons hb3.adm adm_nil)))) (by kernel_rfl) (by kernel_rfl) exl_nil (ne_w (by decide +kernel)) (ne_t (by decide +kernel) (by decide +kernel)) (by simp) (fun q => by omega) (bls_cons ?_ (bls_cons ?_ (bls_cons ?_ bls_nil))), ?_⟩
  · rw [hL, hR]
    exact hb.ex
  · rw [hL, hR]
    exact hb2.ex
  · rw [hL, hR]
    exact hb3.ex
  · rw [cnt_of [.lst ts, .lst [], .lst [t]] (by kernel_rfl)]
    show 1 + (cntL g ts + (0 + ((cntS g t + 0) + 0))) = _
    omega
/-- a method -/
def MethOk (g : Nat) (m : Th) : Prop := ∃ z ps ts, m = .tup [.str z, .lst ps, .lst ts] ∧ nameB z = true ∧ ParOk 1 ps ∧ BlkOk g "method" false ts
def methN (g : Nat) (m : Th) : Nat := cntL g (elems (thirdT m))
theorem MethOk.adm {m : Th} (h : MethOk g m) : Adm m := by
  obtain ⟨z, ps, ts, rfl, hz, hp, hb⟩ := h
  exact adm_tup (adm_cons (name_adm hz) (adm_cons hp.par.2 (adm_cons hb.adm adm_nil))) (by simp) (head_ok _)
theorem ok_class {ab : Th} {ms : List Th} {zs : List Str} (hg : ms ≠ [] → 1 ≤ g) (hz : nameB z = true) (ha : ab = .non ∨ ExE r ab) (hl : ms.length ≤ 4) (hm : ∀ m ∈ ms, MethOk g m) (hh : ms.map headOf = zs) (hn : zs.Nodup) :
    OkS (g + 1) r l (.tup [.str "class", .str z, ab, .lst ms]) ∧ cntS (g + 1) (.tup [.str "class", .str z, ab, .lst ms]) = 1 + (ms.map (methN g)).sum := by
  have hbl : ofT blOf1 (.tup [.str "class", .str z, ab, .lst ms]) = ms.map thirdT := by
    show ([] ++ ([] ++ (ms.map thirdT ++ []))) = _
    rw [List.append_nil]
    rfl
  have hmeth : partB (exprB 5) "methods" (.lst ms) = true := by
    rw [p_meth]
    show (decide (ms.length ≤ 4) && (ms.all methodB && decide (dc (ms.map headOf) = ms.length))) = true
    have hlz : ms.length = zs.length := by rw [← hh, List.length_map]
    rw [decide_eq_true hl, hh, hlz, decide_eq_true ((dc_nodup zs).mpr hn), Bool.true_and, Bool.and_true]
    refine List.all_eq_true.mpr fun m h => ?_
    obtain ⟨z, ps, ts, rfl, hz, hp, hb⟩ := hm m h
    show (isNameT (.str z) && (paramB (.lst ps) && (decide (0 < ps.length) && true))) = true
    obtain ⟨ys, rfl, _, _, _, hne⟩ := id hp
    rw [show isNameT (.str z) = true from hz, hp.par.1, decide_eq_true (by
      rw [List.length_map]
      exact List.length_pos_iff.mpr (hne rfl))]
    rfl
  have hex : ofT exOf1 (.tup [.str "class", .str z, ab, .lst ms]) = (if isNonT ab = false then [ab] else []) := by
    show ([] ++ ((if ("perhaps an expression" : Str) = "arguments" then elems ab else if ("perhaps an expression" : Str) = "expression" ∨ (("perhaps an expression" : Str) = "perhaps an expression" ∧ isNonT ab = false) then [ab] else []) ++ ([] ++ []))) = _
    rw [if_neg (by decide +kernel)]
    by_cases h : isNonT ab = false
    · rw [if_pos (.inr ⟨rfl, h⟩), if_pos h]
      rfl
    · rw [if_neg (by rintro (q | ⟨_, q⟩); exact absurd q (by decide +kernel); exact h q), if_neg h]
      rfl
  refine ⟨ok_of (ks := ["name", "perhaps an expression", "methods"]) _ (ms.map thirdT) (lookS (by decide +kernel)) rfl (zp_cons (name_part hz) (zp_cons ?_ (zp_cons hmeth zp_nil))) (by kernel_rfl) (by decide) (adm_cons (name_adm hz) (adm_cons ?_ (adm_cons (adm_lst (fun m h => (hm m h).adm) (by omega)) adm_nil))) hex hbl ?_ (ne_w (by decide +kernel)) (ne_t (by decide +kernel) (by decide +kernel)) (by simp) (fun q => ?_) (fun b hb => ?_), ?_⟩
  · rw [p_pexp]
    rcases ha with rfl | h
    · rfl
    · rw [show exprB 5 ab = true from ExT.good h, Bool.or_true]
  · rcases ha with rfl | h
    · exact adm_non
    · exact h.adm
  · rcases ha with rfl | h
    · exact exl_nil
    · intro x hx
      split at hx
      · rw [List.mem_singleton.mp hx]
        exact h.ab
      · exact (List.not_mem_nil hx).elim
  · cases ms with
    | nil => rfl
    | cons m ms => 
      have := hg (by simp)
      omega
  · obtain ⟨m, h, rfl⟩ := List.mem_map.mp hb
    obtain ⟨z, ps, ts, rfl, _, _, hb2⟩ := hm m h
    rw [show inR "class" r = "method" by unfold inR; rw [if_neg (by decide +kernel), if_pos rfl], show inL "class" l = false by unfold inL; rw [if_neg (by decide +kernel), if_pos rfl]]
    exact hb2.ex
  · rw [cnt_of (ms.map thirdT) hbl, List.map_map]
    rfl
end
/-! drawn things that take from the number of statements left -/
section
variable {P : Program} {w : World} {K : PySem.W.Frag} {mg : Str → Option Value} {base : Heap} {σ : L2.St} {H H' H0 : Hp} {ta tb tc td te tl tv tk ti to : TE} {tr : TA} {x y kv v : V} {X0 : XK} {t u : TT} {tu tz : TS} {D : Ends} {g : TG} {R : V → Hp → Prop} {s : Addr} {sc sc' : Sc}
theorem Dr.nxt {H1 H2 : Hp} (a : Dr s sc H H1) (b : Dr s sc' H1 H2) : Dr s sc' H H2 := ⟨a.1.trans b.1, b.2⟩
theorem Dr.dm2 (S : SrcAt H s sc) (d : Dr s sc' H H') : Dm H H' := d.dm
theorem RepN.xo {t : Th} (h0 : H0 s ≠ none) (S : SrcAt H s sc) (d : Dr s sc' H H') (r : RepN K H0 H v t) : RepN K H0 H' v t := by
  obtain ⟨cs, i, c, st, n, no, ma, h1, _⟩ := S
  exact r.exo h0 h1 d.1
theorem RepsN.xo {vs : List V} {ts : List Th} (h0 : H0 s ≠ none) (S : SrcAt H s sc) (d : Dr s sc' H H') (r : RepsN K H0 H vs ts) : RepsN K H0 H' vs ts := by
  obtain ⟨cs, i, c, st, n, no, ma, h1, _⟩ := S
  exact r.exo h0 h1 d.1
/-- the source with so many left -/
def Left (H' : Hp) (s : Addr) (a : Addr) (k : Nat) (H : Hp) : Prop := Dr s ⟨a, .int ((k : Nat) : Int)⟩ H H'
theorem left_of {a : Addr} {k : Nat} (S : SrcAt H s ⟨a, .int ((k : Nat) : Int)⟩) (e : Ex H H') : Left H' s a k H := Dr.of S e
def DXc (K : PySem.W.Frag) (s a : Addr) (H0 : Hp) (ta : TE) (σ : L2.St) (H : Hp) (F : Th → Nat → Prop) : Prop := EvX ta σ H fun v H' => ∃ t k, RepN K H0 H' v t ∧ F t k ∧ Left H' s a k H
def DAc (K : PySem.W.Frag) (s a : Addr) (H0 : Hp) (tr : TA) (σ : L2.St) (H : Hp) (F : List Th → Nat → Prop) : Prop := ∀ Q : List V → Hp → Prop, (∀ vs ts k H', RepsN K H0 H' vs ts → F ts k → Left H' s a k H → Q vs H') → tr σ H Q
theorem dac_one {a : Addr} {F : Th → Nat → Prop} (h : DXc K s a H0 te σ H F) : DAc K s a H0 (tCons te tNil) σ H (fun ts k => ∃ t, ts = [t] ∧ F t k) := fun Q q =>
  h _ fun v H1 ⟨t, k, rt, ft, d⟩ => q [v] [t] k H1 (.cons rt .nil) ⟨t, rfl, ft⟩ d
theorem dac_cons {a : Addr} {k0 : Nat} {F : Th → Prop} {G : List Th → Nat → Prop} (n0 : H0 s ≠ none) (ha : DX K s ⟨a, .int ((k0 : Nat) : Int)⟩ H0 ta σ H F) (hr : ∀ H1, Dr s ⟨a, .int ((k0 : Nat) : Int)⟩ H H1 → DAc K s a H0 tr σ H1 G) : DAc K s a H0 (tCons ta tr) σ H (fun ts k => ∃ t r, ts = t :: r ∧ F t ∧ G r k) := fun Q q =>
  ha _ fun v H1 ⟨t, rt, ft, d⟩ => hr H1 d _ fun vs ts k H2 rs gs d2 => q _ _ k H2 (.cons (rt.xo n0 d.2 d2) rs) ⟨t, ts, rfl, ft, gs⟩ (d.nxt d2)
theorem dxc_tup {a : Addr} {G : List Th → Nat → Prop} (h : DAc K s a H0 tr σ H G) (hl : ∀ ts k, G ts k → ts.length ≤ 1000) : DXc K s a H0 (tTup tr) σ H (fun t k => ∃ ts, t = .tup ts ∧ G ts k) := fun Q q =>
  h _ fun vs ts k H2 rs gs d => ⟨sz_of (by have := rs.length; have := hl ts k gs; omega), fun p hp => q _ _ ⟨.tup ts, k, .tup (st_of upd_same) (rs.mono (Ex.new hp)), ⟨ts, rfl, gs⟩, d.nxt (Dr.of d.2 (Ex.new hp))⟩⟩
theorem dxc_lst {a : Addr} {G : List Th → Nat → Prop} (dm : Dm H0 H) (h : DAc K s a H0 tr σ H G) (hl : ∀ ts k, G ts k → ts.length ≤ 1000) : DXc K s a H0 (tLst tr) σ H (fun t k => ∃ ts, t = .lst ts ∧ G ts k) := fun Q q =>
  h _ fun vs ts k H2 rs gs d => ⟨sz_of (by have := rs.length; have := hl ts k gs; omega), fun p hp => q _ _ ⟨.lst ts, k, .lst (dm p (d.dm p hp)) upd_same (rs.mono (Ex.new hp)), ⟨ts, rfl, gs⟩, d.nxt (Dr.of d.2 (Ex.new hp))⟩⟩
/-- how many are left -/
theorem ev_left {a : Addr} {k : Nat} (h : Ev ta σ H (.ref s)) (S : SrcAt H s ⟨a, .int ((k : Nat) : Int)⟩) : Ev (tOp (rIxL K) ta (tC (.int 6))) σ H (.int ((k : Nat) : Int)) := by
  obtain ⟨cs, i, c, st, n, no, ma, h1, h2, h3, hm⟩ := S
  have hm : ma = .int ((k : Nat) : Int) := hm
  subst hm
  exact ev_src (i := 6) h h1 rfl
/-- one less -/
theorem s_less {a : Addr} {k : Nat} (h : ∀ H1, Ex H H1 → Ev ta σ H1 (.ref s)) (S : SrcAt H s ⟨a, .int ((k + 1 : Nat) : Int)⟩) (kk : ∀ H1, Left H1 s a k H → D.nx σ H1) :
    tAsg (tOp (rI0 fun i j => .int (i - j)) (tOp (rIxL K) ta (tC (.int 6))) (tC (.int 1))) (gSub ta (tC (.int 6)) rSetL) D σ H := by
  have h6 := ev_left (K := K) (h H (Ex.refl H)) S
  obtain ⟨cs, i, c, st, n, no, ma, h1, h2, h3, hm⟩ := S
  have hm : ma = .int ((k + 1 : Nat) : Int) := hm
  subst hm
  refine s_setL (j := 6) h1 (ev_is (ev_op h6 ev_c rv_I0) (w := .int ((k : Nat) : Int)) (by congr 1; omega)) (h H (Ex.refl H)) ev_c (by simp) fun H1 e1 => kk _ ⟨(ExO.of e1).upd, ?_⟩
  exact ⟨cs, i, c, st, n, no, _, upd_same, by rw [upd_ne (src_ne h1 h2)]; exact e1 _ _ h2, h3, rfl⟩
theorem q_less {a : Addr} {k : Nat} (h : ∀ H1, Ex H H1 → Ev ta σ H1 (.ref s)) (S : SrcAt H s ⟨a, .int ((k + 1 : Nat) : Int)⟩) (kk : ∀ H1, Left H1 s a k H → tz D σ H1) :
    tSeq (tAsg (tOp (rI0 fun i j => .int (i - j)) (tOp (rIxL K) ta (tC (.int 6))) (tC (.int 1))) (gSub ta (tC (.int 6)) rSetL)) tz D σ H := s_less (D := { D with nx := tz D }) h S kk
theorem etx_and {R1 R : Bool → Hp → Prop} (h : EvTX t σ H R1) (h2 : ∀ H1, R1 true H1 → EvTX u σ H1 R) (h3 : ∀ H1, R1 false H1 → R false H1) : EvTX (tAnd t u) σ H R := fun Q q => h _ fun b H1 r => by
  cases b with
  | true =>
    show u σ H1 Q
    exact h2 H1 r Q q
  | false =>
    show Q false H1
    exact q _ _ (h3 H1 r)
theorem etx_of {b : Bool} (h : EvT t σ H b) : EvTX t σ H (fun b' H' => b' = b ∧ Ex H H') := fun Q q => h H (Ex.refl H) _ fun H1 e => q b H1 ⟨rfl, e⟩
end
end K0
/-! ## K4E -/
set_option Elab.async false
set_option linter.all false
set_option maxRecDepth 100000
set_option maxHeartbeats 8000000
namespace K0
open PySem PySem.Spec PyProof.Rows L2 Evl RZ KB
section
variable {P : Program} {w : World} {K : PySem.W.Frag} {mg : Str → Option Value} {base : Heap} {σ : L2.St} {H H' H0 : Hp} {ta tb tc td te tl tv tk ti to : TE} {tr : TA} {x y kv v : V} {X0 : XK} {t u : TT} {tu tz : TS} {D : Ends} {g : TG} {R : V → Hp → Prop} {s : Addr} {sc sc' : Sc}
/-- a block at depth 8 - g + 1 .. told by its fuel -/
def SpBlk (K : PySem.W.Frag) : Nat → Sp
  | 0 => fun _ _ _ _ => False
  | g + 1 => fun vs H Q _ => ∃ s a r l k, vs = [.ref s, .int (8 - ((g : Nat) : Int)), .str r, .bl l] ∧ SrcAt H s ⟨a, .int ((k : Nat) : Int)⟩ ∧ ∀ v ts k' H', RepN K H H' v (.lst ts) → BlkOk (g + 1) r l ts → k' + cntL (g + 1) ts = k → Left H' s a k' H → Q v H'
def SpSta (K : PySem.W.Frag) : Nat → Sp
  | 0 => fun _ _ _ _ => False
  | g + 1 => fun vs H Q _ => ∃ s a r l k, vs = [.ref s, .int (8 - ((g : Nat) : Int)), .str r, .bl l] ∧ SrcAt H s ⟨a, .int ((k : Nat) : Int)⟩ ∧ ∀ v t k' H', RepN K H H' v t → OkS (g + 1) r l t → k' + cntS (g + 1) t = k + 1 → Left H' s a k' H → Q v H'
def SpCls (K : PySem.W.Frag) (g : Nat) : Sp := fun vs H Q _ => ∃ s a r k, vs = [.ref s, .int (8 - ((g : Nat) : Int)), .str r] ∧ SrcAt H s ⟨a, .int ((k : Nat) : Int)⟩ ∧ ∀ v t k' H', RepN K H H' v t → (∀ l, OkS (g + 1) r l t) → k' + cntS (g + 1) t = k + 1 → Left H' s a k' H → Q v H'
def SpTry (K : PySem.W.Frag) (g : Nat) : Sp := fun vs H Q _ => ∃ s a r l k, vs = [.ref s, .int (8 - ((g : Nat) : Int)), .str r, .bl l] ∧ 1 ≤ g ∧ SrcAt H s ⟨a, .int ((k : Nat) : Int)⟩ ∧ ∀ v t k' H', RepN K H H' v t → OkS (g + 1) r l t → k' + cntS (g + 1) t = k + 1 → Left H' s a k' H → Q v H'
theorem dxc_blk {E : XK} {a : Addr} {g k : Nat} {r : Str} {l : Bool} (hg : 1 ≤ g) (dm : Dm H0 H) (S : SrcAt H s ⟨a, .int ((k : Nat) : Int)⟩) (ha : Ev ta σ H (.ref s)) (hb : Ev tb σ H (.int (8 - ((g : Nat) : Int) + 1))) (hc : Ev tc σ H (.str r)) (hd : Ev td σ H (.bl l)) :
    DXc K s a H0 (tCall (SpBlk K g) [] E (tCons ta (tCons tb (tCons tc (tCons td tNil))))) σ H (fun t k' => ∃ ts, t = .lst ts ∧ BlkOk g r l ts ∧ k' + cntL g ts = k) := fun Q q => by
  obtain ⟨g, rfl⟩ : ∃ g', g = g' + 1 := ⟨g - 1, by omega⟩
  exact ea_cons ha (ea_cons hb (ea_cons hc (ea_cons hd ea_nil))) H (Ex.refl H) _ fun H2 e2 => ⟨s, a, r, l, k, by
    show [V.ref s, .int (8 - ((g + 1 : Nat) : Int) + 1), .str r, .bl l] = _
    rw [show (8 - ((g + 1 : Nat) : Int) + 1) = 8 - ((g : Nat) : Int) by omega], S.mono e2, fun v ts k' H3 rt hb hk d => q _ H3 ⟨.lst ts, k', rt.base (dm.trans (Dm.of e2)), ⟨ts, rfl, hb, hk⟩, (Dr.of S e2).nxt d⟩⟩
theorem dxc_sta {E : XK} {a : Addr} {g k : Nat} {r : Str} {l : Bool} (hg : 1 ≤ g) (dm : Dm H0 H) (S : SrcAt H s ⟨a, .int ((k : Nat) : Int)⟩) (ha : Ev ta σ H (.ref s)) (hb : Ev tb σ H (.int (8 - ((g : Nat) : Int) + 1))) (hc : Ev tc σ H (.str r)) (hd : Ev td σ H (.bl l)) :
    DXc K s a H0 (tCall (SpSta K g) [] E (tCons ta (tCons tb (tCons tc (tCons td tNil))))) σ H (fun t k' => OkS g r l t ∧ k' + cntS g t = k + 1) := fun Q q => by
  obtain ⟨g, rfl⟩ : ∃ g', g = g' + 1 := ⟨g - 1, by omega⟩
  exact ea_cons ha (ea_cons hb (ea_cons hc (ea_cons hd ea_nil))) H (Ex.refl H) _ fun H2 e2 => ⟨s, a, r, l, k, by
    show [V.ref s, .int (8 - ((g + 1 : Nat) : Int) + 1), .str r, .bl l] = _
    rw [show (8 - ((g + 1 : Nat) : Int) + 1) = 8 - ((g : Nat) : Int) by omega], S.mono e2, fun v t k' H3 rt hb hk d => q _ H3 ⟨t, k', rt.base (dm.trans (Dm.of e2)), ⟨hb, hk⟩, (Dr.of S e2).nxt d⟩⟩
theorem dxc_sta0 {E : XK} {a : Addr} {g k : Nat} {r : Str} {l : Bool} (dm : Dm H0 H) (S : SrcAt H s ⟨a, .int ((k : Nat) : Int)⟩) (ha : Ev ta σ H (.ref s)) (hb : Ev tb σ H (.int (8 - ((g : Nat) : Int)))) (hc : Ev tc σ H (.str r)) (hd : Ev td σ H (.bl l)) :
    DXc K s a H0 (tCall (SpSta K (g + 1)) [] E (tCons ta (tCons tb (tCons tc (tCons td tNil))))) σ H (fun t k' => OkS (g + 1) r l t ∧ k' + cntS (g + 1) t = k + 1) := fun Q q =>
  ea_cons ha (ea_cons hb (ea_cons hc (ea_cons hd ea_nil))) H (Ex.refl H) _ fun H2 e2 => ⟨s, a, r, l, k, rfl, S.mono e2, fun v t k' H3 rt hb hk d => q _ H3 ⟨t, k', rt.base (dm.trans (Dm.of e2)), ⟨hb, hk⟩, (Dr.of S e2).nxt d⟩⟩
theorem dxc_cls {E : XK} {a : Addr} {g k : Nat} {r : Str} (dm : Dm H0 H) (S : SrcAt H s ⟨a, .int ((k : Nat) : Int)⟩) (ha : Ev ta σ H (.ref s)) (hb : Ev tb σ H (.int (8 - ((g : Nat) : Int)))) (hc : Ev tc σ H (.str r)) :
    DXc K s a H0 (tCall (SpCls K g) [] E (tCons ta (tCons tb (tCons tc tNil)))) σ H (fun t k' => (∀ l, OkS (g + 1) r l t) ∧ k' + cntS (g + 1) t = k + 1) := fun Q q =>
  ea_cons ha (ea_cons hb (ea_cons hc ea_nil)) H (Ex.refl H) _ fun H2 e2 => ⟨s, a, r, k, rfl, S.mono e2, fun v t k' H3 rt hb hk d => q _ H3 ⟨t, k', rt.base (dm.trans (Dm.of e2)), ⟨hb, hk⟩, (Dr.of S e2).nxt d⟩⟩
theorem dxc_try {E : XK} {a : Addr} {g k : Nat} {r : Str} {l : Bool} (hg : 1 ≤ g) (dm : Dm H0 H) (S : SrcAt H s ⟨a, .int ((k : Nat) : Int)⟩) (ha : Ev ta σ H (.ref s)) (hb : Ev tb σ H (.int (8 - ((g : Nat) : Int)))) (hc : Ev tc σ H (.str r)) (hd : Ev td σ H (.bl l)) :
    DXc K s a H0 (tCall (SpTry K g) [] E (tCons ta (tCons tb (tCons tc (tCons td tNil))))) σ H (fun t k' => OkS (g + 1) r l t ∧ k' + cntS (g + 1) t = k + 1) := fun Q q =>
  ea_cons ha (ea_cons hb (ea_cons hc (ea_cons hd ea_nil))) H (Ex.refl H) _ fun H2 e2 => ⟨s, a, r, l, k, rfl, hg, S.mono e2, fun v t k' H3 rt hb hk d => q _ H3 ⟨t, k', rt.base (dm.trans (Dm.of e2)), ⟨hb, hk⟩, (Dr.of S e2).nxt d⟩⟩
theorem f_try (z : Cz w K mg) {g lv : Nat} (hlv : 3 ≤ lv) (c__law_block : Cl P w K mg base lv "_law_block" (SpBlk K g)) (c__law_statement : Cl P w K mg base lv "_law_statement" (SpSta K g)) : Cl P w K mg base (lv + 1) "_law_try" (SpTry K g) := by
  have c__law_draw := f_draw (P := P) (base := base) z
  have c__law_name := f_nameV (P := P) (base := base) z
  refine cal_of (k := lv) z.fn__law_try z.glo__law_try K0.c__law_try (fun vs H Q E h => ?_) (fun cdv A outer s H vs Q _ hr h => ?_)
  · obtain ⟨s, a, r, l, k, rfl, _⟩ := h
    rfl
  · obtain ⟨s, a, r, l, k0, rfl, hg, S, k⟩ := h
    refine ⟨_, (pss_cons (ps_set (i := 4) K0.c__law_try.nd rfl (.inl rfl) (pe_c c__law_block hr (by first | decide | omega) (by rfl) (pa_cons (pv 0) (pa_cons (pe_op op_add (pv 1) pe_int) (pa_cons (pv 2) (pa_cons (pv 3) pa_nil))))))
      (pss_cons (ps_if (PW.pt (pw_and (pt_cmpR op_eq (pe_c c__law_draw hr (by first | decide | omega) (by rfl) (pa_cons (pv 0) (pa_cons pe_int pa_nil))) pe_int (nomark _)) (pw_and1 (pt_cmpR op_gt (pe_ix (show IxR _ (rIxL K) from ix_list) (pv 0) pe_int (fun _ _ => rfl)) pe_int (nomark _))))) (pss_cons (ps_asg (pe_op op_sub (pe_ix (show IxR _ (rIxL K) from ix_list) (pv 0) pe_int (fun _ _ => rfl)) pe_int) (pg_sub (pv 0) pe_int set_list))
      (pss_one (ps_ret (pe_tup (pa_cons pe_str (pa_cons (pv 4) (pa_cons pe_non (pa_cons (pe_lst pa_nil) (pa_cons (pe_lst (pa_cons (pe_c c__law_statement hr (by first | decide | omega) (by rfl) (pa_cons (pv 0) (pa_cons (pe_op op_add (pv 1) pe_int) (pa_cons (pv 2) (pa_cons (pv 3) pa_nil))))) pa_nil)) pa_nil))))))))) pss_nil)
      (pss_cons (ps_set (i := 5) K0.c__law_try.nd rfl (.inl rfl) (pe_c c__law_name hr (by first | decide | omega) (by rfl) (pa_cons (pv 0) pa_nil)))
      (pss_cons (ps_set (i := 6) K0.c__law_try.nd rfl (.inl rfl) (pe_c c__law_block hr (by first | decide | omega) (by rfl) (pa_cons (pv 0) (pa_cons (pe_op op_add (pv 1) pe_int) (pa_cons (pv 2) (pa_cons (pv 3) pa_nil))))))
      (pss_one (ps_ret (pe_tup (pa_cons pe_str (pa_cons (pv 4) (pa_cons (pv 5) (pa_cons (pv 6) (pa_cons (pe_c c__law_block hr (by first | decide | omega) (by rfl) (pa_cons (pv 0) (pa_cons (pe_op op_add (pv 1) pe_int) (pa_cons (pv 2) (pa_cons (pv 3) pa_nil))))) pa_nil)))))))))))), ?_⟩
    have n0 := S.some
    refine EvX.q_asg (dxc_blk hg (fun a h => h) S (ev_var rfl) (ev_op (ev_var rfl) ev_c rv_I0) (ev_var rfl) (ev_var rfl)) fun bv H1 ⟨bt, k1, rb, ⟨ts, hbt, hb, hk1⟩, d1⟩ => ?_
    subst hbt
    refine EvTX.q_when (R := fun b H' => Left H' s a k1 H ∧ ExO s H1 H' ∧ (b = true → 1 ≤ k1)) (etx_and (R1 := fun b H' => Left H' s a k1 H ∧ ExO s H1 H') (etx_test (EvX.op (R1 := fun v H' => ∃ d, v = .int d ∧ 0 ≤ d ∧ d < 3 ∧ Dr s _ H1 H') (R2 := fun x v H' => v = .int 0 ∧ ∃ d, x = .int d ∧ Dr s _ H1 H') (x_draw (m := 3) (ev_var rfl) ev_c d1.2 (by decide) (by decide)) (fun x H5 ⟨d, hx, _, _, d5⟩ => (EvX.of ev_c).imp fun v H6 ⟨hv, e6⟩ => ⟨hv, d, hx, d5.trans (Dr.of d5.2 e6)⟩) fun x H5 y H6 r1 ⟨hy, d, hx, d6⟩ Q6 q6 => ?_)) (fun H2 ⟨d2, x2⟩ Q2 q2 => ?_) (fun H2 ⟨d2, x2⟩ => ⟨d2, x2, fun q => nomatch q⟩)) (fun H2 ⟨d2, x2, hk⟩ => ?_) (fun H2 ⟨d2, x2, _⟩ => ?_)
    · subst hx hy
      exact (rv_iEq (i := d) (j := 0)) H6 (Ex.refl _) _ fun H7 e7 => q6 _ H7 ⟨decide (d = 0), rfl, d1.nxt (d6.trans (Dr.of d6.2 e7)), (d6.trans (Dr.of d6.2 e7)).1⟩
    · refine et_test (b := decide (((k1 : Nat) : Int) > 0)) (ev_op (ev_left (ev_var rfl) d2.2) ev_c rv_I0) H2 (Ex.refl _) _ fun H3 e3 => q2 _ H3 ⟨d2.nxt (Dr.of d2.2 e3), x2.trans (ExO.of e3), fun hb => ?_⟩
      have := of_decide_eq_true hb
      omega
    · have h1k := hk rfl
      obtain ⟨k2, rfl⟩ : ∃ k2, k1 = k2 + 1 := ⟨k1 - 1, by omega⟩
      have rb2 := rb.xo n0 d1.2 (⟨x2, d2.2⟩ : Dr s ⟨a, .int ((k2 + 1 : Nat) : Int)⟩ H1 H2)
      refine q_less (fun H1 e => ev_var rfl) d2.2 fun H3 d3 => ?_
      have rb3 := rb2.xo n0 d2.2 d3
      have d3 := d2.nxt d3
      refine EvX.ret (dxc_tup (dac_cons n0 (dx_str d3.2) fun H4 d4 => dac_cons n0 (dx_ev (F := (· = .lst ts)) (ev_var rfl) (rb3.dr n0 d3.2 d4) rfl d4.2) fun H5 d5 => dac_cons n0 (dx_ev (t := .non) (F := (· = .non)) ev_c .non rfl d5.2) fun H6 d6 => dac_cons n0 (dx_el (ts := []) (F := (· = .lst [])) (((d3.nxt d4).trans d5).trans d6).dm (el_lst ea_nil (by simp)) .nil rfl d6.2) fun H7 d7 => dac_one (dxc_lst ((((d3.nxt d4).trans d5).trans d6).trans d7).dm (dac_one (dxc_sta hg ((((d3.nxt d4).trans d5).trans d6).trans d7).dm d7.2 (ev_var rfl) (ev_op (ev_var rfl) ev_c rv_I0) (ev_var rfl) (ev_var rfl))) fun ts k h => ?_)) fun ts k h => ?_) fun v H8 ⟨t, k8, rt, ht, d8⟩ => ?_
      · obtain ⟨t, rfl, _⟩ := h
        simp
      · obtain ⟨t1, r1, rfl, _, t2, r2, rfl, _, t3, r3, rfl, _, t4, r4, rfl, _, t5, rfl, _⟩ := h
        simp
      · obtain ⟨us, rfl, t1, r1, rfl, rfl, t2, r2, rfl, rfl, t3, r3, rfl, rfl, t4, r4, rfl, rfl, t5, rfl, ts6, rfl, t7, rfl, h7, hk7⟩ := ht
        obtain ⟨q1, q2⟩ := ok_last (r := r) (l := l) hg hb h7
        exact k v _ k8 H8 rt q1 (by rw [q2]; omega) (d3.nxt d8)
    · have rb2 := rb.xo n0 d1.2 (⟨x2, d2.2⟩ : Dr s ⟨a, .int ((k1 : Nat) : Int)⟩ H1 H2)
      refine EvX.q_asg (dx_nameV (H0 := H) (ev_var rfl) d2.2) fun nv H3 ⟨nt, rn, ⟨zn, hnt, hzn⟩, d3⟩ => ?_
      subst hnt
      have rb3 := rb2.dr n0 d2.2 d3
      have d3 := d2.nxt d3
      refine EvX.q_asg (dxc_blk hg d3.dm d3.2 (ev_var rfl) (ev_op (ev_var rfl) ev_c rv_I0) (ev_var rfl) (ev_var rfl)) fun bv2 H4 ⟨bt2, k4, rb4, ⟨us, hbt, hb2, hk4⟩, d4⟩ => ?_
      subst hbt
      have rb5 := rb3.xo n0 d3.2 d4
      have rn5 := rn.xo n0 d3.2 d4
      have d4 := d3.nxt d4
      refine EvX.ret (dxc_tup (dac_cons n0 (dx_str d4.2) fun H5 d5 => dac_cons n0 (dx_ev (F := (· = .lst ts)) (ev_var rfl) (rb5.dr n0 d4.2 d5) rfl d5.2) fun H6 d6 => dac_cons n0 (dx_ev (F := (· = .str zn)) (ev_var rfl) ((rn5.dr n0 d4.2 d5).dr n0 d5.2 d6) rfl d6.2) fun H7 d7 => dac_cons n0 (dx_ev (F := (· = .lst us)) (ev_var rfl) (((rb4.dr n0 d4.2 d5).dr n0 d5.2 d6).dr n0 d6.2 d7) rfl d7.2) fun H8 d8 => dac_one (dxc_blk hg ((((d4.nxt d5).trans d6).trans d7).trans d8).dm d8.2 (ev_var rfl) (ev_op (ev_var rfl) ev_c rv_I0) (ev_var rfl) (ev_var rfl))) fun ts k h => ?_) fun v H9 ⟨t, k9, rt, ht, d9⟩ => ?_
      · obtain ⟨t1, r1, rfl, _, t2, r2, rfl, _, t3, r3, rfl, _, t4, r4, rfl, _, t5, rfl, _⟩ := h
        simp
      · obtain ⟨us9, rfl, t1, r1, rfl, rfl, t2, r2, rfl, rfl, t3, r3, rfl, rfl, t4, r4, rfl, rfl, t5, rfl, ts6, rfl, hb6, hk6⟩ := ht
        obtain ⟨q1, q2⟩ := ok_try (r := r) (l := l) hg hzn hb hb2 hb6
        exact k v _ k9 H9 rt q1 (by rw [q2]; omega) (d4.nxt d9)
theorem f_statement (z : Cz w K mg) {g lv : Nat} (hlv : 11 ≤ lv) (c__law_block : Cl P w K mg base lv "_law_block" (SpBlk K g)) (c__law_class : Cl P w K mg base lv "_law_class" (SpCls K g)) (c__law_try : Cl P w K mg base lv "_law_try" (SpTry K g)) : Cl P w K mg base (lv + 1) "_law_statement" (SpSta K (g + 1)) := by
  have c__law_draw := f_draw (P := P) (base := base) z
  have c__law_name := f_nameV (P := P) (base := base) z
  have c__law_params := f_params (P := P) (base := base) z
  have c__law_expression := f_expression (P := P) (base := base) z 5
  have c__law_simple := f_simple (P := P) (base := base) z
  refine cal_of (k := lv) z.fn__law_statement z.glo__law_statement K0.c__law_statement (fun vs H Q E h => ?_) (fun cdv A outer s H vs Q _ hr h => ?_)
  · obtain ⟨s, a, r, l, k, rfl, _⟩ := h
    rfl
  · obtain ⟨s, a, r, l, k0, rfl, S, k⟩ := h
    refine ⟨_, (pss_cons (ps_set (i := 4) K0.c__law_statement.nd rfl (.inl rfl) (pe_c c__law_draw hr (by first | decide | omega) (by rfl) (pa_cons (pv 0) (pa_cons pe_int pa_nil))))
      (pss_cons (ps_if (pt_cmpR op_eq (pv 4) pe_int (nomark _)) (pss_one (ps_ret (pe_c c__law_class hr (by first | decide | omega) (by rfl) (pa_cons (pv 0) (pa_cons (pv 1) (pa_cons (pv 2) pa_nil)))))) pss_nil)
      (pss_cons (ps_if (PW.pt (pw_or (pt_cmpR op_lt (pv 4) pe_int (nomark _)) (pw_or1 (pt_cmpR op_gt (pv 1) pe_int (nomark _))))) (pss_one (ps_ret (pe_c c__law_simple hr (by first | decide | omega) (by rfl) (pa_cons (pv 0) (pa_cons (pv 2) (pa_cons (pv 3) pa_nil)))))) pss_nil)
      (pss_cons (ps_if (pt_cmpR op_eq (pv 4) pe_int (nomark _)) (pss_cons (ps_set (i := 5) K0.c__law_statement.nd rfl (.inl rfl) (pe_c c__law_name hr (by first | decide | omega) (by rfl) (pa_cons (pv 0) pa_nil)))
      (pss_cons (ps_set (i := 6) K0.c__law_statement.nd rfl (.inl rfl) (pe_c c__law_params hr (by first | decide | omega) (by rfl) (pa_cons (pv 0) (pa_cons pe_int pa_nil))))
      (pss_one (ps_ret (pe_tup (pa_cons pe_str (pa_cons (pv 5) (pa_cons (pv 6) (pa_cons (pe_c c__law_block hr (by first | decide | omega) (by rfl) (pa_cons (pv 0) (pa_cons (pe_op op_add (pv 1) pe_int) (pa_cons pe_str (pa_cons pe_bl pa_nil))))) pa_nil))))))))) pss_nil)
      (pss_cons (ps_if (pt_cmpR op_gt (pv 4) pe_int (nomark _)) (pss_one (ps_ret (pe_c c__law_try hr (by first | decide | omega) (by rfl) (pa_cons (pv 0) (pa_cons (pv 1) (pa_cons (pv 2) (pa_cons (pv 3) pa_nil))))))) pss_nil)
      (pss_cons (ps_set (i := 7) K0.c__law_statement.nd rfl (.inl rfl) (pe_c c__law_expression hr (by first | decide | omega) (by rfl) (pa_cons (pv 0) (pa_cons pe_int (pa_cons (pe_cmpR op_eq (pv 2) pe_str (nomark _)) pa_nil)))))
      (pss_cons (ps_set (i := 8) K0.c__law_statement.nd rfl (.inl rfl) (pe_c c__law_block hr (by first | decide | omega) (by rfl) (pa_cons (pv 0) (pa_cons (pe_op op_add (pv 1) pe_int) (pa_cons (pv 2) (pa_cons (pe_or (pv 3) (pe_one (pe_cmpR op_gt (pv 4) pe_int (nomark _)))) pa_nil))))))
      (pss_cons (ps_if (pt_cmpR op_gt (pv 4) pe_int (nomark _)) (pss_one (ps_ret (pe_tup (pa_cons pe_str (pa_cons (pv 7) (pa_cons (pv 8) pa_nil)))))) pss_nil)
      (pss_one (ps_ret (pe_tup (pa_cons pe_str (pa_cons (pv 7) (pa_cons (pv 8) (pa_cons (pe_c c__law_block hr (by first | decide | omega) (by rfl) (pa_cons (pv 0) (pa_cons (pe_op op_add (pv 1) pe_int) (pa_cons (pv 2) (pa_cons (pv 3) pa_nil))))) pa_nil))))))))))))))), ?_⟩
    have n0 := S.some
    refine EvX.q_asg (x_draw (m := 17) (ev_var rfl) ev_c S (by decide) (by decide)) fun v H1 ⟨sh, hv, sh0, sh1, d1⟩ => ?_
    subst hv
    refine q_when (b := decide (sh = 16)) (et_test (ev_op (ev_var rfl) ev_c rv_iEq)) (fun hb H2 e2 => ?_) (fun hb H2 e2 => ?_)
    · have d2 := d1.trans (Dr.of d1.2 e2)
      exact EvX.ret (dxc_cls (H0 := H) d2.dm d2.2 (ev_var rfl) (ev_var rfl) (ev_var rfl)) fun v H3 ⟨t, k3, rt, ⟨h1, h2⟩, d3⟩ => k v t k3 H3 rt (h1 l) h2 (d2.nxt d3)
    have d2 := d1.trans (Dr.of d1.2 e2)
    refine q_when (b := decide (sh < 9) || decide (8 - ((g : Nat) : Int) > 7)) (et_or (et_test (ev_op (ev_var rfl) ev_c rv_I0)) fun _ => et_test (ev_op (ev_var rfl) ev_c rv_I0)) (fun hb2 H3 e3 => ?_) (fun hb2 H3 e3 => ?_)
    · have d3 := d2.trans (Dr.of d2.2 e3)
      refine EvX.ret (dx_simple (H0 := H) d3.dm (ev_var rfl) (ev_var rfl) (ev_var rfl) d3.2) fun v H4 ⟨t, rt, ht, d4⟩ => ?_
      exact k v t k0 H4 rt (ht g).1 (by rw [(ht g).2]) (d3.trans d4)
    have d3 := d2.trans (Dr.of d2.2 e3)
    have hg : 1 ≤ g := by
      have := of_decide_eq_false (Bool.or_eq_false_iff.mp hb2).2
      omega
    clear d1 d2 e2 e3
    refine q_when (b := decide (sh = 15)) (et_test (ev_op (ev_var rfl) ev_c rv_iEq)) (fun hb3 H4 e4 => ?_) (fun hb3 H4 e4 => ?_)
    · have d4 := d3.trans (Dr.of d3.2 e4)
      refine EvX.q_asg (dx_nameV (H0 := H) (ev_var rfl) d4.2) fun nv H5 ⟨nt, rn, ⟨zn, hnt, hzn⟩, d5⟩ => ?_
      subst hnt
      have d5 := d4.trans d5
      refine EvX.q_asg (dx_params (H0 := H) (least := 0) (by decide) d5.dm (ev_var rfl) ev_c d5.2) fun pv0 H6 ⟨pt, rp, ⟨ps, hpt, hps⟩, d6⟩ => ?_
      subst hpt
      have rn6 := rn.dr n0 d5.2 d6
      have d6 := d5.trans d6
      refine EvX.ret (dxc_tup (dac_cons n0 (dx_str d6.2) fun H7 d7 => dac_cons n0 (dx_ev (F := (· = .str zn)) (ev_var rfl) (rn6.dr n0 d6.2 d7) rfl d7.2) fun H8 d8 => dac_cons n0 (dx_ev (F := (· = .lst ps)) (ev_var rfl) ((rp.dr n0 d6.2 d7).dr n0 d7.2 d8) rfl d8.2) fun H9 d9 => dac_one (dxc_blk hg (((d6.trans d7).trans d8).trans d9).dm d9.2 (ev_var rfl) (ev_op (ev_var rfl) ev_c rv_I0) ev_c ev_c)) fun ts k h => ?_) fun v H10 ⟨t, k10, rt, ht, d10⟩ => ?_
      · obtain ⟨t1, r1, rfl, _, t2, r2, rfl, _, t3, r3, rfl, _, t4, rfl, _⟩ := h
        simp
      · obtain ⟨us, rfl, t1, r1, rfl, rfl, t2, r2, rfl, rfl, t3, r3, rfl, rfl, t4, rfl, ts, rfl, hb4, hk4⟩ := ht
        obtain ⟨q1, q2⟩ := ok_def (r := r) (l := l) hg hzn hps hb4
        exact k v _ k10 H10 rt q1 (by rw [q2]; omega) (d6.nxt d10)
    have d4 := d3.trans (Dr.of d3.2 e4)
    clear d3 e4
    refine q_when (b := decide (sh > 12)) (et_test (ev_op (ev_var rfl) ev_c rv_I0)) (fun hb4 H5 e5 => ?_) (fun hb4 H5 e5 => ?_)
    · have d5 := d4.trans (Dr.of d4.2 e5)
      exact EvX.ret (dxc_try (H0 := H) hg d5.dm d5.2 (ev_var rfl) (ev_var rfl) (ev_var rfl) (ev_var rfl)) fun v H6 ⟨t, k6, rt, ⟨h1, h2⟩, d6⟩ => k v t k6 H6 rt h1 h2 (d5.nxt d6)
    have d5 := d4.trans (Dr.of d4.2 e5)
    clear d4 e5
    refine EvX.q_asg (dx_expr (n := 5) (m := decide (r = "method")) n0 d5.dm d5.2 (by decide) (ev_var rfl) ev_c (ev_meth rfl)) fun ev H6 ⟨et, re, fe, d6⟩ => ?_
    have fe : ExE r et := fe
    have d6 := d5.trans d6
    refine EvX.q_asg (dxc_blk (l := l || decide (sh > 10)) hg d6.dm d6.2 (ev_var rfl) (ev_op (ev_var rfl) ev_c rv_I0) (ev_var rfl) (ev_orV (ev_var rfl) fun _ => ev_op (ev_var rfl) ev_c rv_I0)) fun bv H7 ⟨bt, k7, rb, ⟨ts, hbt, hbk, hk7⟩, d7⟩ => ?_
    subst hbt
    have re7 := re.xo n0 d6.2 d7
    have d7 := d6.nxt d7
    refine q_when (b := decide (sh > 10)) (et_test (ev_op (ev_var rfl) ev_c rv_I0)) (fun hb5 H8 e8 => ?_) (fun hb5 H8 e8 => ?_)
    · have d8 := d7.nxt (Dr.of d7.2 e8)
      rw [hb5, Bool.or_true] at hbk
      refine EvX.ret (dx_tup (da_cons n0 (dx_str d8.2) fun H9 d9 => da_cons n0 (dx_ev (F := ExE r) (ev_var rfl) ((re7.mono e8).dr n0 d8.2 d9) fe d9.2) fun H10 d10 => da_cons n0 (dx_ev (F := (· = .lst ts)) (ev_var rfl) (((rb.mono e8).dr n0 d8.2 d9).dr n0 d9.2 d10) rfl d10.2) fun H11 d11 => da_nil d11.2) fun ts h => ?_) fun v H12 ⟨t, rt, ht, d12⟩ => ?_
      · obtain ⟨a, b, c, rfl, _⟩ := three_len h
        simp
      · obtain ⟨us, rfl, hus⟩ := ht
        obtain ⟨a1, b1, c1, rfl, rfl, fb, rfl⟩ := three_len hus
        obtain ⟨q1, q2⟩ := ok_while (r := r) (l := l) hg fb hbk
        exact k v _ k7 H12 rt q1 (by rw [q2]; omega) (d8.nxt d12)
    · have d8 := d7.nxt (Dr.of d7.2 e8)
      rw [hb5, Bool.or_false] at hbk
      refine EvX.ret (dxc_tup (dac_cons n0 (dx_str d8.2) fun H9 d9 => dac_cons n0 (dx_ev (F := ExE r) (ev_var rfl) ((re7.mono e8).dr n0 d8.2 d9) fe d9.2) fun H10 d10 => dac_cons n0 (dx_ev (F := (· = .lst ts)) (ev_var rfl) (((rb.mono e8).dr n0 d8.2 d9).dr n0 d9.2 d10) rfl d10.2) fun H11 d11 => dac_one (dxc_blk hg (((d8.trans d9).trans d10).trans d11).dm d11.2 (ev_var rfl) (ev_op (ev_var rfl) ev_c rv_I0) (ev_var rfl) (ev_var rfl))) fun ts k h => ?_) fun v H12 ⟨t, k12, rt, ht, d12⟩ => ?_
      · obtain ⟨t1, r1, rfl, _, t2, r2, rfl, _, t3, r3, rfl, _, t4, rfl, _⟩ := h
        simp
      · obtain ⟨us, rfl, t1, r1, rfl, rfl, t2, r2, rfl, f2, t3, r3, rfl, rfl, t4, rfl, ts2, rfl, hb2', hk4⟩ := ht
        obtain ⟨q1, q2⟩ := ok_if (r := r) (l := l) hg f2 hbk hb2'
        exact k v _ k12 H12 rt q1 (by rw [q2]; omega) (d8.nxt d12)
end
end K0
/-! ## K4F -/
set_option Elab.async false
set_option linter.all false
set_option maxRecDepth 100000
set_option maxHeartbeats 8000000
namespace K0
open PySem PySem.Spec PyProof.Rows L2 Evl RZ KB
section
variable {P : Program} {w : World} {K : PySem.W.Frag} {mg : Str → Option Value} {base : Heap} {σ : L2.St} {H H' H0 : Hp} {ta tb tc td te tl tv tk ti to : TE} {tr : TA} {x y kv v : V} {X0 : XK} {t u : TT} {tu tz : TS} {D : Ends} {g : TG} {R : V → Hp → Prop} {s : Addr} {sc sc' : Sc}
theorem EvTX.s_when {R : Bool → Hp → Prop} (h : EvTX t σ H R) (h1 : ∀ H1, R true H1 → tu D σ H1) (h2 : ∀ H1, R false H1 → D.nx σ H1) : tIfS t tu tNext D σ H := h _ fun b H2 r => by
  cases b with
  | true =>
    show tu D σ H2
    exact h1 H2 r
  | false =>
    show D.nx σ H2
    exact h2 H2 r
/-- draw(..) == n -/
theorem etx_draw {E : XK} {m n : Int} (ha : Ev ta σ H (.ref s)) (S : SrcAt H s sc) (m0 : 0 < m) (m1 : m < 1073741824) : EvTX (tTest (tOp rEq (tCall (SpDraw K) [] E (tCons ta (tCons (tC (.int m)) tNil))) (tC (.int n)))) σ H (fun _ H' => Dr s sc H H') := etx_test (EvX.op (R1 := fun v H' => ∃ d, v = .int d ∧ 0 ≤ d ∧ d < m ∧ Dr s sc H H') (R2 := fun x v H' => v = .int n ∧ ∃ d, x = .int d ∧ Dr s sc H H') (x_draw ha ev_c S m0 m1) (fun x H5 ⟨d, hx, _, _, d5⟩ => (EvX.of ev_c).imp fun v H6 ⟨hv, e6⟩ => ⟨hv, d, hx, d5.trans (Dr.of d5.2 e6)⟩) fun x H5 y H6 r1 ⟨hy, d, hx, d6⟩ Q6 q6 => by
  subst hx hy
  exact (rv_iEq (i := d) (j := n)) H6 (Ex.refl _) _ fun H7 e7 => q6 _ H7 ⟨decide (d = n), rfl, d6.trans (Dr.of d6.2 e7)⟩)
theorem dm_mut {p : Addr} {o : HO} {Hb : Hp} (h : Dm Hb H) (hp : H p ≠ none) : Dm Hb (upd H p o) := fun a ha => by
  by_cases ea : a = p
  · rw [ea, upd_same] at ha
    cases ha
  · rw [upd_ne ea] at ha
    exact h a ha
theorem src_fresh {p : Addr} (S : SrcAt H s sc) (hp : H p = none) : p ≠ s ∧ p ≠ sc.a := by
  refine ⟨fun q => S.some (q ▸ hp), fun q => ?_⟩
  obtain ⟨cs, i, c, st, n, no, ma, _, h2, _⟩ := S
  rw [← q, hp] at h2
  cases h2
theorem f_never (z : Cz w K mg) : Cl P w K mg base 12 "_law_block" (SpBlk K 0) := cal_of (k := 11) z.fn__law_block z.glo__law_block K0.c__law_block (fun vs H Q E h => h.elim) (fun cdv A outer s H vs Q _ hr h => h.elim)
theorem f_never2 (z : Cz w K mg) : Cl P w K mg base 12 "_law_statement" (SpSta K 0) := cal_of (k := 11) z.fn__law_statement z.glo__law_statement K0.c__law_statement (fun vs H Q E h => h.elim) (fun cdv A outer s H vs Q _ hr h => h.elim)
theorem f_block (z : Cz w K mg) {g lv : Nat} (hlv : 3 ≤ lv) (c__law_statement : Cl P w K mg base lv "_law_statement" (SpSta K (g + 1))) : Cl P w K mg base (lv + 1) "_law_block" (SpBlk K (g + 1)) := by
  have c__law_draw := f_draw (P := P) (base := base) z
  refine cal_of (k := lv) z.fn__law_block z.glo__law_block K0.c__law_block (fun vs H Q E h => ?_) (fun cdv A outer s H vs Q _ hr h => ?_)
  · obtain ⟨s, a, r, l, k, rfl, _⟩ := h
    rfl
  · obtain ⟨s, a, r, l, k0, rfl, S, k⟩ := h
    refine ⟨_, (pss_cons (ps_set (i := 4) K0.c__law_block.nd rfl (.inl rfl) (pe_lst pa_nil))
      (pss_cons (ps_set (i := 5) K0.c__law_block.nd rfl (.inl rfl) (pe_ix (show IxR _ (rIxL K) from ix_list) (pe_lst (pa_cons pe_int (pa_cons pe_int (pa_cons pe_int (pa_cons pe_int (pa_cons pe_int (pa_cons pe_int (pa_cons pe_int (pa_cons pe_int pa_nil))))))))) (pe_c c__law_draw hr (by first | decide | omega) (by rfl) (pa_cons (pv 0) (pa_cons pe_int pa_nil))) (fun _ _ => rfl)))
      (pss_cut (ps_if (pt_cmpR op_eq (pe_c c__law_draw hr (by first | decide | omega) (by rfl) (pa_cons (pv 0) (pa_cons pe_int pa_nil))) pe_int (nomark _)) (pss_one (ps_set (i := 5) K0.c__law_block.nd rfl (.inl rfl) pe_int)) pss_nil)
      (pss_cons (ps_for PassesOwn.never rfl (pi_range1 (by rfl) z.free_range (pa_cons (pv 5) pa_nil)) (pg_name (i := 6) K0.c__law_block.nd rfl (.inl rfl)) (pss_one (ps_if (pt_cmpR op_gt (pe_ix (show IxR _ (rIxL K) from ix_list) (pv 0) pe_int (fun _ _ => rfl)) pe_int (nomark _)) (pss_cons (ps_asg (pe_op op_sub (pe_ix (show IxR _ (rIxL K) from ix_list) (pv 0) pe_int (fun _ _ => rfl)) pe_int) (pg_sub (pv 0) pe_int set_list))
      (pss_one (ps_expr (pe_bm PySem.F.plainAttrs_list PySem.F.slot_list_append PySem.F.type_list_append mt_append (pv 4) (pa_cons (pe_c c__law_statement hr (by first | decide | omega) (by rfl) (pa_cons (pv 0) (pa_cons (pv 1) (pa_cons (pv 2) (pa_cons (pv 3) pa_nil))))) pa_nil))))) pss_nil)))
      (pss_one (ps_ret (pv 4))))))), ?_⟩
    have n0 := S.some
    refine q_asgL (el_lst ea_nil (by simp)) fun p H1 hp e1 h1 => ?_
    have S1 := S.mono e1
    obtain ⟨np, npc⟩ := src_fresh S hp
    have n0s : (upd H p (.lst [])) s ≠ none := by
      rw [upd_ne (Ne.symm np)]
      exact n0
    have n0p : (upd H p (.lst [])) p ≠ none := by
      rw [upd_same]
      exact fun q => nomatch q
    refine EvX.q_asg (x_pick (m := 8) (el_lst (ea_cons ev_c (ea_cons ev_c (ea_cons ev_c (ea_cons ev_c (ea_cons ev_c (ea_cons ev_c (ea_cons ev_c (ea_cons ev_c ea_nil)))))))) (by decide)) (ev_var rfl) ev_c S1 rfl (by decide) (by decide)) fun v H2 ⟨hm, d2⟩ => ?_
    have hv : ∃ n : Nat, v = .int ((n : Nat) : Int) ∧ n ≤ 12 := by
      simp only [List.mem_cons, List.not_mem_nil, or_false] at hm
      rcases hm with rfl | rfl | rfl | rfl | rfl | rfl | rfl | rfl
      · exact ⟨0, rfl, by decide⟩
      · exact ⟨0, rfl, by decide⟩
      · exact ⟨1, rfl, by decide⟩
      · exact ⟨1, rfl, by decide⟩
      · exact ⟨1, rfl, by decide⟩
      · exact ⟨2, rfl, by decide⟩
      · exact ⟨2, rfl, by decide⟩
      · exact ⟨3, rfl, by decide⟩
    obtain ⟨mn, rfl, hmn⟩ := hv
    refine q_cut (M := fun σ' H' => ∃ mn : Nat, mn ≤ 12 ∧ σ' = [some (.ref s), some (.int (8 - ((g : Nat) : Int))), some (.str r), some (.bl l), some (.ref p), some (.int ((mn : Nat) : Int)), none] ∧ Dr s ⟨a, .int ((k0 : Nat) : Int)⟩ H1 H') ?_ ?_
    · refine EvTX.s_when (etx_draw (m := 24) (n := 1) (ev_var rfl) d2.2 (by decide) (by decide)) (fun H3 d3 => ?_) (fun H3 d3 => ⟨mn, hmn, rfl, d2.trans d3⟩)
      exact s_asg ev_c fun H4 e4 => ⟨12, by decide, rfl, (d2.trans d3).trans (Dr.of d3.2 e4)⟩
    · rintro σ' H3 ⟨mn, hmn, rfl, d3⟩
      refine q_forR1 (n := ((mn : Nat) : Int)) (ea_cons (ev_var rfl) ea_nil) (by omega) (fun i σ' H' => ∃ q6 k' vs ts, σ' = [some (.ref s), some (.int (8 - ((g : Nat) : Int))), some (.str r), some (.bl l), some (.ref p), some (.int ((mn : Nat) : Int)), q6] ∧ Left H' s a k' H ∧ Dm (upd H p (.lst [])) H' ∧ H' p = some (.lst vs) ∧ RepsN K (upd H p (.lst [])) H' vs ts ∧ ts.length ≤ i ∧ (∀ t ∈ ts, OkS (g + 1) r l t) ∧ k' + cntL (g + 1) ts = k0) (fun H4 e4 => ?_) (fun i σ' H' hi hP => ?_) (fun σ' H' hP => ?_)
      · refine ⟨_, k0, [], [], rfl, (Dr.of S e1).nxt (d3.trans (Dr.of d3.2 e4)), fun b hb => ?_, e4 _ _ (d3.at h1 np), .nil, Nat.le_refl _, fun t ht => (List.not_mem_nil ht).elim, rfl⟩
        have hb := (d3.dm) b (fresh_back e4 hb)
        by_cases ea : b = p
        · rw [ea, h1] at hb
          cases hb
        · rw [upd_ne ea]
          exact fresh_back e1 hb
      · obtain ⟨q6, k', vs, ts, rfl, dl, pd, p3, p4, p5, p6, p7⟩ := hP
        refine s_when (b := decide (((k' : Nat) : Int) > 0)) (et_test (ev_op (ev_left (ev_var rfl) dl.2) ev_c rv_I0)) (fun hb H5 e5 => ?_) (fun hb H5 e5 => ⟨_, k', vs, ts, rfl, dl.nxt (Dr.of dl.2 e5), pd.trans (Dm.of e5), e5 _ _ p3, p4.mono e5, by omega, p6, p7⟩)
        have hk1 : 0 < k' := by
          have := of_decide_eq_true hb
          omega
        obtain ⟨k2, rfl⟩ : ∃ k2, k' = k2 + 1 := ⟨k' - 1, by omega⟩
        have S5 := dl.2.mono e5
        refine q_less (fun H1 e => ev_var rfl) S5 fun H6 d6 => ?_
        have h6 : H6 p = some (.lst vs) := d6.1 p _ np (e5 _ _ p3)
        have r6 := (p4.mono e5).xo n0s S5 d6
        have pd6 := (pd.trans (Dm.of e5)).trans d6.dm
        have dl6 := (dl.nxt (Dr.of dl.2 e5)).nxt d6
        refine s_appX (l := p) (xs := vs) (R := fun v H' => ∃ t k3, RepN K (upd H p (.lst [])) H' v t ∧ (OkS (g + 1) r l t ∧ k3 + cntS (g + 1) t = k2 + 1) ∧ Left H' s a k3 H6) h6 (ev_var rfl) (fun H7 e7 => EvX.imp (dxc_sta0 (g := g) (r := r) (l := l) (pd6.trans (Dm.of e7)) (dl6.2.mono e7) (ev_var rfl) (ev_var rfl) (ev_var rfl) (ev_var rfl)) fun v H8 ⟨t, k3, rt, ft, d8⟩ => ⟨t, k3, rt, ft, (Dr.of dl6.2 e7).nxt d8⟩) (fun v H8 ⟨t, k3, rt, ft, d8⟩ => d8.1 p _ np h6) (by have := p4.length; omega) fun v H8 ⟨t, k3, rt, ⟨ok, hk3⟩, d8⟩ => ?_
        have h8 := d8.1 p _ np h6
        have dl8 := dl6.nxt d8
        refine ⟨_, k3, vs ++ [v], ts ++ [t], rfl, ⟨dl8.1.mut hp, dl8.2.updD np npc⟩, dm_mut (pd6.trans d8.dm) (by rw [h8]; exact fun q => nomatch q), upd_same, RepsN.snoc ((r6.xo n0s dl6.2 d8).exo n0p h8 (ExO.upd (ExO.of (Ex.refl _)))) (rt.exo n0p h8 (ExO.upd (ExO.of (Ex.refl _)))), by rw [List.length_append]; show ts.length + 1 ≤ i + 1; omega, fun y hy => ?_, ?_⟩
        · rcases List.mem_append.mp hy with hy | hy
          · exact p6 y hy
          · rw [List.mem_singleton.mp hy]
            exact ok
        · rw [cntL_app]
          have : cntL (g + 1) [t] = cntS (g + 1) t := by
            unfold cntL
            simp
          omega
      · obtain ⟨q6, k', vs, ts, rfl, dl, pd, p3, p4, p5, p6, p7⟩ := hP
        rw [Int.toNat_natCast] at p5
        exact s_ret (ev_var rfl) fun H5 e5 => k _ ts k' H5 (.lst hp (e5 _ _ p3) ((p4.mono e5).base (Dm.of (Ex.new hp)))) ⟨by omega, p6⟩ p7 (dl.nxt (Dr.of dl.2 e5))
theorem f_class (z : Cz w K mg) {g lv : Nat} (hlv : 9 ≤ lv) (c__law_block : Cl P w K mg base lv "_law_block" (SpBlk K g)) : Cl P w K mg base (lv + 1) "_law_class" (SpCls K g) := by
  have c__law_draw := f_draw (P := P) (base := base) z
  have c__law_name := f_nameV (P := P) (base := base) z
  have c__law_params := f_params (P := P) (base := base) z
  have c__law_expression := f_expression (P := P) (base := base) z 5
  refine cal_of (k := lv) z.fn__law_class z.glo__law_class K0.c__law_class (fun vs H Q E h => ?_) (fun cdv A outer s H vs Q _ hr h => ?_)
  · obtain ⟨s, a, r, k, rfl, _⟩ := h
    rfl
  · obtain ⟨s, a, r, k0, rfl, S, k⟩ := h
    refine ⟨_, (pss_cons (ps_set (i := 3) K0.c__law_class.nd rfl (.inl rfl) (pe_c c__law_name hr (by first | decide | omega) (by rfl) (pa_cons (pv 0) pa_nil)))
      (pss_cons (ps_set (i := 4) K0.c__law_class.nd rfl (.inl rfl) pe_non)
      (pss_cut (ps_if (pt_cmpR op_eq (pe_c c__law_draw hr (by first | decide | omega) (by rfl) (pa_cons (pv 0) (pa_cons pe_int pa_nil))) pe_int (nomark _)) (pss_one (ps_set (i := 4) K0.c__law_class.nd rfl (.inl rfl) (pe_c c__law_expression hr (by first | decide | omega) (by rfl) (pa_cons (pv 0) (pa_cons pe_int (pa_cons (pe_cmpR op_eq (pv 2) pe_str (nomark _)) pa_nil)))))) pss_nil)
      (pss_cons (ps_set (i := 5) K0.c__law_class.nd rfl (.inl rfl) (pe_lst pa_nil))
      (pss_cons (ps_set (i := 6) K0.c__law_class.nd rfl (.inl rfl) (pe_lst pa_nil))
      (pss_cut (ps_if (pt_cmpR op_lt (pv 1) pe_int (nomark _)) (pss_one (ps_for PassesOwn.never rfl (pi_range1 (by rfl) z.free_range (pa_cons (pe_c c__law_draw hr (by first | decide | omega) (by rfl) (pa_cons (pv 0) (pa_cons pe_int pa_nil))) pa_nil)) (pg_name (i := 7) K0.c__law_class.nd rfl (.inl rfl)) (pss_cons (ps_set (i := 8) K0.c__law_class.nd rfl (.inl rfl) (pe_c c__law_name hr (by first | decide | omega) (by rfl) (pa_cons (pv 0) pa_nil)))
      (pss_one (ps_if (pt_cmpR op_notIn_seq (pv 8) (pv 6) (by rfl)) (pss_cons (ps_expr (pe_bm PySem.F.plainAttrs_list PySem.F.slot_list_append PySem.F.type_list_append mt_append (pv 6) (pa_cons (pv 8) pa_nil)))
      (pss_cons (ps_set (i := 9) K0.c__law_class.nd rfl (.inl rfl) (pe_c c__law_params hr (by first | decide | omega) (by rfl) (pa_cons (pv 0) (pa_cons pe_int pa_nil))))
      (pss_one (ps_expr (pe_bm PySem.F.plainAttrs_list PySem.F.slot_list_append PySem.F.type_list_append mt_append (pv 5) (pa_cons (pe_tup (pa_cons (pv 8) (pa_cons (pv 9) (pa_cons (pe_c c__law_block hr (by first | decide | omega) (by rfl) (pa_cons (pv 0) (pa_cons (pe_op op_add (pv 1) pe_int) (pa_cons pe_str (pa_cons pe_bl pa_nil))))) pa_nil)))) pa_nil)))))) pss_nil))))) pss_nil)
      (pss_one (ps_ret (pe_tup (pa_cons pe_str (pa_cons (pv 3) (pa_cons (pv 4) (pa_cons (pv 5) pa_nil))))))))))))), ?_⟩
    have n0 := S.some
    refine EvX.q_asg (dx_nameV (H0 := H) (ev_var rfl) S) fun nv H1 ⟨nt, rn, ⟨zn, hnt, hzn⟩, d1⟩ => ?_
    subst hnt
    cases rn
    refine q_asg ev_c fun H2 e2 => ?_
    have d2 := d1.trans (Dr.of d1.2 e2)
    refine q_cut (M := fun σ' H' => ∃ av ab, σ' = [some (.ref s), some (.int (8 - ((g : Nat) : Int))), some (.str r), some (.str zn), some av, none, none, none, none, none] ∧ RepN K H H' av ab ∧ (ab = .non ∨ ExE r ab) ∧ Dr s ⟨a, .int ((k0 : Nat) : Int)⟩ H H') ?_ ?_
    · refine EvTX.s_when (etx_draw (m := 2) (n := 1) (ev_var rfl) d2.2 (by decide) (by decide)) (fun H3 d3 => ?_) (fun H3 d3 => ⟨.non, .non, rfl, .non, .inl rfl, d2.trans d3⟩)
      have d3 := d2.trans d3
      exact EvX.s_asg (dx_expr (n := 5) (m := decide (r = "method")) n0 d3.dm d3.2 (by decide) (ev_var rfl) ev_c (ev_meth rfl)) fun av H4 ⟨ab, ra, fa, d4⟩ => ⟨av, ab, rfl, ra, .inr fa, d3.trans d4⟩
    rintro σ' H3 ⟨av, ab, rfl, ra, hab, d3⟩
    refine q_asgL (el_lst ea_nil (by simp)) fun p H4 hp e4 h4 => ?_
    have d4 := d3.trans (Dr.of d3.2 e4)
    have hHp : H p = none := d3.dm p hp
    obtain ⟨np, npc⟩ := src_fresh S hHp
    refine q_asgL (el_lst ea_nil (by simp)) fun q H5 hq e5 h5 => ?_
    have d5 := d4.trans (Dr.of d4.2 e5)
    have hHq : H q = none := d4.dm q hq
    obtain ⟨nq, nqc⟩ := src_fresh S hHq
    have hpq : p ≠ q := fun z => by
      rw [← z, h4] at hq
      cases hq
    have h5p := e5 _ _ h4
    have ra5 := (((ra.avoid (o := .lst []) hp).mono e4).avoid (o := .lst []) hq).mono e5
    have hHbq : ∀ a, a ≠ p → a ≠ q → (upd (upd H p (.lst [])) q (.lst [])) a = H a := fun a h1 h2 => by rw [upd_ne h2, upd_ne h1]
    have nbs : (upd (upd H p (.lst [])) q (.lst [])) s ≠ none := by
      rw [hHbq s (Ne.symm np) (Ne.symm nq)]
      exact n0
    have nbp : (upd (upd H p (.lst [])) q (.lst [])) p ≠ none := by
      rw [upd_ne hpq, upd_same]
      exact fun q => nomatch q
    have nbq : (upd (upd H p (.lst [])) q (.lst [])) q ≠ none := by
      rw [upd_same]
      exact fun q => nomatch q
    have dmb : Dm H (upd (upd H p (.lst [])) q (.lst [])) := fun b hb => by
      by_cases e1 : b = q
      · rw [e1]
        exact hHq
      · rw [upd_ne e1] at hb
        by_cases e2 : b = p
        · rw [e2]
          exact hHp
        · rw [upd_ne e2] at hb
          exact hb
    generalize hHb : upd (upd H p (.lst [])) q (.lst []) = Hb at hHbq nbs nbp nbq dmb ra5
    have dm5 : Dm Hb H5 := fun b hb => by
      have hnp : b ≠ p := fun e => by
        rw [e, h5p] at hb
        cases hb
      have hnq : b ≠ q := fun e => by
        rw [e, h5] at hb
        cases hb
      rw [hHbq b hnp hnq]
      exact d5.dm b hb
    refine q_cut (M := fun σ' H' => ∃ q7 q8 q9 k' vs ms zs, σ' = [some (.ref s), some (.int (8 - ((g : Nat) : Int))), some (.str r), some (.str zn), some av, some (.ref p), some (.ref q), q7, q8, q9] ∧ Left H' s a k' H ∧ RepN K Hb H' av ab ∧ H' p = some (.lst vs) ∧ RepsN K Hb H' vs ms ∧ ms.map headOf = zs ∧ zs.Nodup ∧ ms.length ≤ 4 ∧ (∀ m ∈ ms, MethOk g m) ∧ (ms ≠ [] → 1 ≤ g) ∧ k' + (ms.map (methN g)).sum = k0) ?_ ?_
    · refine s_when (b := decide (8 - ((g : Nat) : Int) < 8)) (et_test (ev_op (ev_var rfl) ev_c rv_I0)) (fun hb H6 e6 => ?_) (fun hb H6 e6 => ⟨_, _, _, k0, [], [], [], rfl, d5.trans (Dr.of d5.2 e6), ra5.mono e6, e6 _ _ h5p, .nil, rfl, List.nodup_nil, by simp, fun m hm => (List.not_mem_nil hm).elim, fun q => absurd rfl q, rfl⟩)
      have hg : 1 ≤ g := by
        have := of_decide_eq_true hb
        omega
      have d6 := d5.trans (Dr.of d5.2 e6)
      refine s_forX (R := fun n H' => n < 5 ∧ Dr s ⟨a, .int ((k0 : Nat) : Int)⟩ H6 H') ((x_draw (m := 5) (ev_var rfl) ev_c d6.2 (by decide) (by decide)).imp fun v H7 ⟨d, hv, d0, d1, d7⟩ => ⟨d.toNat, by rw [hv, Int.toNat_of_nonneg d0], by omega, by omega, d7⟩) fun n H7 ⟨hn, d7⟩ => ?_
      have dd7 := d6.trans d7
      refine ⟨fun i σ' H' => ∃ q7 q8 q9 k' vs ms zs, σ' = [some (.ref s), some (.int (8 - ((g : Nat) : Int))), some (.str r), some (.str zn), some av, some (.ref p), some (.ref q), q7, q8, q9] ∧ Left H' s a k' H ∧ RepN K Hb H' av ab ∧ Dm Hb H' ∧ H' p = some (.lst vs) ∧ H' q = some (.lst (zs.map V.str)) ∧ RepsN K Hb H' vs ms ∧ ms.map headOf = zs ∧ zs.Nodup ∧ ms.length ≤ i ∧ (∀ m ∈ ms, MethOk g m) ∧ k' + (ms.map (methN g)).sum = k0, ⟨_, _, _, k0, [], [], [], rfl, dd7, (ra5.mono e6).dr nbs d6.2 d7, (dm5.trans (Dm.of e6)).trans d7.dm, d7.at (e6 _ _ h5p) np, d7.at (e6 _ _ h5) nq, .nil, rfl, List.nodup_nil, Nat.le_refl _, fun m hm => (List.not_mem_nil hm).elim, rfl⟩, fun i σ' H' hi hP => ?_, fun σ' H' hP => ?_⟩
      · obtain ⟨q7, q8, q9, k', vs, ms, zs, rfl, dl, rav, pd, p3, p4, p5, p6, p7, p8, p9, p10⟩ := hP
        refine EvX.q_asg (dx_nameV (K := K) (H0 := Hb) (ev_var rfl) dl.2) fun mv H8 ⟨mt, rm, ⟨zm, hmt, hzm⟩, d8⟩ => ?_
        subst hmt
        cases rm
        have h8p := d8.at p3 np
        have h8q := d8.at p4 nq
        have dl8 := dl.nxt d8
        have rv8 := rav.dr nbs dl.2 d8
        have r8 := p5.dr nbs dl.2 d8
        have pd8 := pd.trans d8.dm
        refine s_when (b := !decide (zm ∈ zs)) (et_test (ev_is (ev_op (ev_var rfl) (ev_var rfl) (rv_niL (sq_of h8q) rfl (flat_strs zs))) (by rw [inV_strs]))) (fun hb2 H9 e9 => ?_) (fun hb2 H9 e9 => ⟨_, _, _, k', vs, ms, zs, rfl, dl8.nxt (Dr.of dl8.2 e9), rv8.mono e9, pd8.trans (Dm.of e9), e9 _ _ h8p, e9 _ _ h8q, r8.mono e9, p6, p7, by omega, p9, p10⟩)
        have hnm : ¬ zm ∈ zs := by simpa using hb2
        have hlz : zs.length ≤ i := by rw [← p6, List.length_map]; exact p8
        refine q_app (e9 _ _ h8q) (ev_var rfl) (ev_var rfl) (by rw [List.length_map]; omega) fun H10 e10 => ?_
        have e910 := e9.trans e10
        have h10q := e910 _ _ h8q
        have dl11 : Left (upd H10 q (.lst (zs.map V.str ++ [V.str zm]))) s a k' H := ⟨(dl8.nxt (Dr.of dl8.2 e910)).1.mut hHq, (dl8.2.mono e910).updD nq nqc⟩
        have h11p : (upd H10 q (.lst (zs.map V.str ++ [V.str zm]))) p = some (.lst vs) := by
          rw [upd_ne hpq]
          exact e910 _ _ h8p
        have h11q : (upd H10 q (.lst (zs.map V.str ++ [V.str zm]))) q = some (.lst ((zs ++ [zm]).map V.str)) := by
          rw [upd_same, List.map_append]
          rfl
        have rv11 := (rv8.mono e910).exo nbq h10q (ExO.upd (u := .lst (zs.map V.str ++ [V.str zm])) (ExO.of (Ex.refl _)))
        have r11 := (r8.mono e910).exo nbq h10q (ExO.upd (u := .lst (zs.map V.str ++ [V.str zm])) (ExO.of (Ex.refl _)))
        have pd11 := dm_mut (o := .lst (zs.map V.str ++ [V.str zm])) (pd8.trans (Dm.of e910)) (by rw [h10q]; exact fun q => nomatch q)
        show tSeq _ _ _ _ (upd H10 q (.lst (zs.map V.str ++ [V.str zm])))
        generalize upd H10 q (.lst (zs.map V.str ++ [V.str zm])) = H11 at dl11 h11p h11q rv11 r11 pd11
        refine EvX.q_asg (dx_params (K := K) (H0 := Hb) (least := 1) (by decide) pd11 (ev_var rfl) ev_c dl11.2) fun pv0 H12 ⟨pt, rp, ⟨ps, hpt, hps⟩, d12⟩ => ?_
        subst hpt
        have h12p := d12.at h11p np
        have h12q := d12.at h11q nq
        have dl12 := dl11.nxt d12
        have rv12 := rv11.dr nbs dl11.2 d12
        have r12 := r11.dr nbs dl11.2 d12
        have pd12 := pd11.trans d12.dm
        refine s_appX (l := p) (xs := vs) (R := fun v H' => ∃ m k3, RepN K Hb H' v m ∧ (headOf m = zm ∧ MethOk g m ∧ k3 + methN g m = k') ∧ Left H' s a k3 H12) h12p (ev_var rfl) (fun H13 e13 => EvX.imp (dxc_tup (dac_cons nbs (dx_ev (F := (· = .str zm)) (ev_var rfl) (.str zm) rfl (dl12.2.mono e13)) fun H14 d14 => dac_cons nbs (dx_ev (F := (· = .lst ps)) (ev_var rfl) ((rp.mono e13).dr nbs (dl12.2.mono e13) d14) rfl d14.2) fun H15 d15 => dac_one (dxc_blk hg (((pd12.trans (Dm.of e13)).trans d14.dm).trans d15.dm) d15.2 (ev_var rfl) (ev_op (ev_var rfl) ev_c rv_I0) ev_c ev_c)) fun ts k h => ?_) fun v H14 ⟨m, k3, rm, ⟨us, hm, hus⟩, d14⟩ => ?_) (fun v H14 ⟨m, k3, rm, fm, d14⟩ => d14.1 p _ np h12p) (by have := p5.length; omega) fun v H14 ⟨m, k3, rm, ⟨fm1, fm2, fm3⟩, d14⟩ => ?_
        · obtain ⟨t1, r1, rfl, _, t2, r2, rfl, _, t3, rfl, _⟩ := h
          simp
        · obtain ⟨t1, r1, rfl, rfl, t2, r2, rfl, rfl, t3, rfl, ts, rfl, hbk, hk3⟩ := hus
          exact ⟨m, k3, rm, ⟨by rw [hm]; rfl, ⟨zm, ps, ts, hm, hzm, hps, hbk⟩, by rw [hm]; exact hk3⟩, (Dr.of dl12.2 e13).nxt d14⟩
        · have h14 := d14.1 p _ np h12p
          have h14q := d14.1 q _ nq h12q
          have dl14 := dl12.nxt d14
          refine ⟨_, _, _, k3, vs ++ [v], ms ++ [m], zs ++ [zm], rfl, ⟨dl14.1.mut hHp, dl14.2.updD np npc⟩, (rv12.xo nbs dl12.2 d14).exo nbp h14 (ExO.upd (ExO.of (Ex.refl _))), dm_mut (pd12.trans d14.dm) (by rw [h14]; exact fun q => nomatch q), upd_same, by rw [upd_ne (Ne.symm hpq)]; exact h14q, RepsN.snoc ((r12.xo nbs dl12.2 d14).exo nbp h14 (ExO.upd (ExO.of (Ex.refl _)))) (rm.exo nbp h14 (ExO.upd (ExO.of (Ex.refl _)))), by rw [List.map_append, p6]; show zs ++ [headOf m] = _; rw [fm1], ?_, by rw [List.length_append]; show ms.length + 1 ≤ i + 1; omega, fun y hy => ?_, ?_⟩
          · refine List.nodup_append.mpr ⟨p7, by simp, fun a ha b hb2 => ?_⟩
            rw [List.mem_singleton.mp hb2]
            rintro rfl
            exact hnm ha
          · rcases List.mem_append.mp hy with hy | hy
            · exact p9 y hy
            · rw [List.mem_singleton.mp hy]
              exact fm2
          · rw [List.map_append, List.sum_append]
            simp
            omega
      · obtain ⟨q7, q8, q9, k', vs, ms, zs, rfl, dl, rav, pd, p3, p4, p5, p6, p7, p8, p9, p10⟩ := hP
        exact ⟨_, _, _, k', vs, ms, zs, rfl, dl, rav, p3, p5, p6, p7, by omega, p9, fun _ => hg, p10⟩
    · rintro σ' H6 ⟨q7, q8, q9, k', vs, ms, zs, rfl, dl, rav, p3, p5, p6, p7, p8, p9, p10, p11⟩
      refine EvX.ret (dx_tup (K := K) (H0 := H) (da_cons n0 (dx_str dl.2) fun H7 d7 => da_cons n0 (dx_ev (t := .str zn) (F := (· = .str zn)) (ev_var rfl) (.str zn) rfl d7.2) fun H8 d8 => da_cons n0 (dx_ev (F := (· = ab)) (ev_var rfl) (((rav.dr nbs dl.2 d7).dr nbs d7.2 d8).base dmb) rfl d8.2) fun H9 d9 => da_cons n0 (dx_ev (F := (· = .lst ms)) (ev_var rfl) (.lst hHp (d9.at (d8.at (d7.at p3 np) np) np) ((((p5.dr nbs dl.2 d7).dr nbs d7.2 d8).dr nbs d8.2 d9).base dmb)) rfl d9.2) fun H10 d10 => da_nil d10.2) fun ts h => ?_) fun v H11 ⟨t, rt, ht, d11⟩ => ?_
      · obtain ⟨t, r, rfl, _, h⟩ := h
        obtain ⟨a, b, c, rfl, _⟩ := three_len h
        simp
      · obtain ⟨us, rfl, ⟨t1, r1, rfl, rfl, h⟩⟩ := ht
        obtain ⟨a1, b1, c1, rfl, rfl, rfl, rfl⟩ := three_len h
        have q1 := fun l => (ok_class (g := g) (r := r) (l := l) p10 hzn hab p8 p9 p6 p7).1
        have q2 := (ok_class (g := g) (r := r) (l := false) p10 hzn hab p8 p9 p6 p7).2
        exact k v _ k' H11 rt q1 (by rw [q2]; omega) (dl.nxt d11)
/-- all of it, level by level -/
theorem f_gen (z : Cz w K mg) : ∀ g : Nat, Cl P w K mg base (12 + 3 * g) "_law_block" (SpBlk K g) ∧ Cl P w K mg base (12 + 3 * g) "_law_statement" (SpSta K g)
  | 0 => ⟨f_never z, f_never2 z⟩
  | g + 1 => by
    obtain ⟨h1, h2⟩ := f_gen z g
    have hc := f_class (P := P) (base := base) z (lv := 12 + 3 * g) (by omega) h1
    have ht := f_try (P := P) (base := base) z (lv := 12 + 3 * g) (by omega) h1 h2
    have hs := f_statement (P := P) (base := base) z (lv := 12 + 3 * g + 1) (by omega) (h1.up (by omega)) hc ht
    have hb := f_block (P := P) (base := base) z (lv := 12 + 3 * g + 1 + 1) (by omega) hs
    exact ⟨hb.up (by omega), hs.up (by omega)⟩
end
end K0
/-! ## K5A -/
set_option Elab.async false
set_option linter.all false
set_option maxRecDepth 100000
set_option maxHeartbeats 4000000
namespace K0
open PySem PySem.Spec PyProof.Rows L2 Evl RZ KB
/-! the survey as a walk over the tree: the path of the first fault, or how many statements there are -/
abbrev Wk := Option (List Nat) × Nat
def blocksW (rec : List Nat → Int → Str → Bool → Nat → List Th → Wk) (p : List Nat) (d : Int) (r : Str) (l : Bool) : Nat → Nat → List Th → Wk
  | _, many, [] => (none, many)
  | n, many, b :: bs => match rec (p ++ [n]) d r l many (elems b) with
    | (some q, m) => (some q, m)
    | (none, m) => blocksW rec p d r l (n + 1) m bs
def stepL (inner : List Nat → Int → Str → Bool → Nat → List Th → Wk) (p : List Nat) (d : Int) (r : Str) (l : Bool) : Nat → Nat → List Th → Wk
  | _, many, [] => (none, many)
  | k, many, t :: ts => if (decide (many = 80) || decide (k = 12)) = true then (some (p ++ [k]), many)
    else if okRow ⟨p ++ [k], t, d, r, l⟩ = true then
      match inner (p ++ [k]) (d + 1) (inR (fw t) r) (inL (fw t) l) (many + 1) (ofT blOf1 t) with
      | (some q, m) => (some q, m)
      | (none, m) => stepL inner p d r l (k + 1) m ts
    else (some (p ++ [k]), many)
def walkL : Nat → List Nat → Int → Str → Bool → Nat → List Th → Wk
  | 0, p, d, r, l, many, ts => stepL (fun _ _ _ _ many _ => (none, many)) p d r l 0 many ts
  | f + 1, p, d, r, l, many, ts => stepL (fun p d r l many bs => blocksW (walkL f) p d r l 0 many bs) p d r l 0 many ts
def innerW : Nat → List Nat → Int → Str → Bool → Nat → List Th → Wk
  | 0 => fun _ _ _ _ many _ => (none, many)
  | f + 1 => fun p d r l many bs => blocksW (walkL f) p d r l 0 many bs
theorem walkL_eq (f : Nat) (p : List Nat) (d : Int) (r : Str) (l : Bool) (many : Nat) (ts : List Th) : walkL f p d r l many ts = stepL (innerW f) p d r l 0 many ts := by
  cases f <;> rfl
def rowsK (p : List Nat) (d : Int) (r : Str) (l : Bool) (k : Nat) (ts : List Th) : List Row := ((ts.take (13 - k)).zipIdx k).map fun x => ⟨p ++ [x.2], x.1, d, r, l⟩
def blocksK (p : List Nat) (d : Int) (r : Str) (l : Bool) (n : Nat) (bs : List Th) : List Row := (bs.zipIdx n).flatMap fun x => rowsAt (p ++ [x.2]) d r l (elems x.1)
theorem rowsK_cons {p : List Nat} {d : Int} {r : Str} {l : Bool} {k : Nat} {t : Th} {ts : List Th} (h : k ≤ 12) : rowsK p d r l k (t :: ts) = ⟨p ++ [k], t, d, r, l⟩ :: rowsK p d r l (k + 1) ts := by
  unfold rowsK
  rw [show 13 - k = (13 - (k + 1)) + 1 by omega, List.take_succ_cons, List.zipIdx_cons, List.map_cons]
theorem okRow_deep {p : List Nat} {t : Th} {r : Str} {l : Bool} (h : okRow ⟨p, t, 8, r, l⟩ = true) : ofT blOf1 t = [] := by
  have h2 : fitsB t 8 r l = true := (Bool.and_eq_true_iff.mp h).2
  rw [fitsB_eq] at h2
  have h3 := (Bool.and_eq_true_iff.mp h2).1
  rw [decide_eq_true rfl, Bool.true_and] at h3
  cases hh : ofT blOf1 t with
  | nil => rfl
  | cons b bs =>
    rw [hh] at h3
    simp at h3
/-- what a walk says of the survey -/
def Says (w : Wk) (N : Nat) (fo : List Row) (rs ws : List Row) : Prop := match w with
  | (some q, _) => (surveyM N fo (rs ++ ws)).2 = some q
  | (none, m) => ∃ R N', surveyM N fo (rs ++ ws) = surveyM N' (fo ++ R) ws ∧ (fo ++ R).length = m ∧ m ≤ 80 ∧ 82 ≤ N' + m
theorem says_nil {N : Nat} {fo ws : List Row} (h : fo.length ≤ 80) (hN : 82 ≤ N + fo.length) : Says (none, fo.length) N fo [] ws := ⟨[], N, by rw [List.nil_append, List.append_nil], by rw [List.append_nil], h, hN⟩
def InnerOk (inner : List Nat → Int → Str → Bool → Nat → List Th → Wk) (d : Int) : Prop := ∀ (p : List Nat) (t : Th) (r : Str) (l : Bool) (N : Nat) (fo ws : List Row), okRow ⟨p, t, d, r, l⟩ = true → fo.length ≤ 80 → 82 ≤ N + fo.length → Says (inner p (d + 1) (inR (fw t) r) (inL (fw t) l) fo.length (ofT blOf1 t)) N fo (innerRows ⟨p, t, d, r, l⟩) ws
theorem stepL_says {inner : List Nat → Int → Str → Bool → Nat → List Th → Wk} {d : Int} (hi : InnerOk inner d) : ∀ (ts : List Th) (p : List Nat) (r : Str) (l : Bool) (k N : Nat) (fo ws : List Row), k ≤ 12 → fo.length ≤ 80 → 82 ≤ N + fo.length → Says (stepL inner p d r l k fo.length ts) N fo (rowsK p d r l k ts) ws
  | [], p, r, l, k, N, fo, ws, hk, hf, hN => by
    show Says (none, fo.length) N fo (rowsK p d r l k []) ws
    rw [show rowsK p d r l k [] = [] by unfold rowsK; rw [List.take_nil]; rfl]
    exact says_nil hf hN
  | t :: ts, p, r, l, k, N, fo, ws, hk, hf, hN => by
    obtain ⟨N, rfl⟩ : ∃ N', N = N' + 1 := ⟨N - 1, by omega⟩
    rw [rowsK_cons hk]
    have e : surveyM (N + 1) fo (⟨p ++ [k], t, d, r, l⟩ :: rowsK p d r l (k + 1) ts ++ ws) = if (decide (fo.length = 80) || decide ((⟨p ++ [k], t, d, r, l⟩ : Row).last = 12)) = true then (fo, some (p ++ [k])) else if okRow ⟨p ++ [k], t, d, r, l⟩ = true then surveyM N (fo ++ [⟨p ++ [k], t, d, r, l⟩]) (innerRows ⟨p ++ [k], t, d, r, l⟩ ++ (rowsK p d r l (k + 1) ts ++ ws)) else (fo, some (p ++ [k])) := rfl
    have hlast : (⟨p ++ [k], t, d, r, l⟩ : Row).last = k := by
      show (p ++ [k]).getLastD 0 = k
      simp
    rw [hlast] at e
    by_cases h1 : (decide (fo.length = 80) || decide (k = 12)) = true
    · have e2 : stepL inner p d r l k fo.length (t :: ts) = (some (p ++ [k]), fo.length) := by
        show (if _ then _ else _) = _
        rw [if_pos h1]
      rw [e2]
      show (surveyM (N + 1) fo _).2 = _
      rw [e, if_pos h1]
    · by_cases h2 : okRow ⟨p ++ [k], t, d, r, l⟩ = true
      · have hk12 : k ≠ 12 := fun q => h1 (by rw [decide_eq_true q, Bool.or_true])
        have hf80 : fo.length ≠ 80 := fun q => h1 (by rw [decide_eq_true q, Bool.true_or])
        have e2 : stepL inner p d r l k fo.length (t :: ts) = match inner (p ++ [k]) (d + 1) (inR (fw t) r) (inL (fw t) l) (fo.length + 1) (ofT blOf1 t) with
            | (some q, m) => (some q, m)
            | (none, m) => stepL inner p d r l (k + 1) m ts := by
          show (if _ then _ else if _ then _ else _) = _
          rw [if_neg h1, if_pos h2]
        rw [e2]
        have hl : (fo ++ [(⟨p ++ [k], t, d, r, l⟩ : Row)]).length = fo.length + 1 := by rw [List.length_append]; rfl
        have hin := hi (p ++ [k]) t r l N (fo ++ [⟨p ++ [k], t, d, r, l⟩]) (rowsK p d r l (k + 1) ts ++ ws) h2 (by omega) (by omega)
        rw [hl] at hin
        have e3 : surveyM (N + 1) fo (⟨p ++ [k], t, d, r, l⟩ :: rowsK p d r l (k + 1) ts ++ ws) = surveyM N (fo ++ [⟨p ++ [k], t, d, r, l⟩]) (innerRows ⟨p ++ [k], t, d, r, l⟩ ++ (rowsK p d r l (k + 1) ts ++ ws)) := by
          rw [e, if_neg h1, if_pos h2]
        generalize inner (p ++ [k]) (d + 1) (inR (fw t) r) (inL (fw t) l) (fo.length + 1) (ofT blOf1 t) = wk at hin ⊢
        obtain ⟨o, m⟩ := wk
        cases o with
        | some q =>
          have hin : (surveyM N _ _).2 = some q := hin
          show (surveyM (N + 1) fo _).2 = some q
          rw [e3]
          exact hin
        | none =>
          obtain ⟨R, N', h3, h4, h5, h6⟩ := hin
          have ih := stepL_says hi ts p r l (k + 1) N' ((fo ++ [⟨p ++ [k], t, d, r, l⟩]) ++ R) ws (by omega) (by rw [h4]; exact h5) (by rw [h4]; exact h6)
          rw [h4] at ih
          show Says (stepL inner p d r l (k + 1) m ts) (N + 1) fo _ ws
          generalize stepL inner p d r l (k + 1) m ts = wk at ih ⊢
          obtain ⟨o, m2⟩ := wk
          cases o with
          | some q =>
            have ih : (surveyM N' _ _).2 = some q := ih
            show (surveyM (N + 1) fo _).2 = some q
            rw [e3, h3]
            exact ih
          | none =>
            obtain ⟨R2, N2, i3, i4, i5, i6⟩ := ih
            refine ⟨[⟨p ++ [k], t, d, r, l⟩] ++ R ++ R2, N2, ?_, ?_, i5, i6⟩
            · rw [e3, h3, i3]
              simp only [List.append_assoc]
            · rw [← i4]
              simp only [List.append_assoc]
      · have e2 : stepL inner p d r l k fo.length (t :: ts) = (some (p ++ [k]), fo.length) := by
          show (if _ then _ else if _ then _ else _) = _
          rw [if_neg h1, if_neg h2]
        rw [e2]
        show (surveyM (N + 1) fo _).2 = _
        rw [e, if_neg h1, if_neg h2]
theorem blocksK_cons {p : List Nat} {d : Int} {r : Str} {l : Bool} {n : Nat} {b : Th} {bs : List Th} : blocksK p d r l n (b :: bs) = rowsAt (p ++ [n]) d r l (elems b) ++ blocksK p d r l (n + 1) bs := by
  unfold blocksK
  rw [List.zipIdx_cons, List.flatMap_cons]
def RecOk (rec : List Nat → Int → Str → Bool → Nat → List Th → Wk) (d : Int) : Prop := ∀ (p : List Nat) (r : Str) (l : Bool) (N : Nat) (fo ws : List Row) (ts : List Th), fo.length ≤ 80 → 82 ≤ N + fo.length → Says (rec p d r l fo.length ts) N fo (rowsAt p d r l ts) ws
theorem blocksW_says {rec : List Nat → Int → Str → Bool → Nat → List Th → Wk} {d : Int} (hr : RecOk rec d) (p : List Nat) (r : Str) (l : Bool) : ∀ (bs : List Th) (n N : Nat) (fo ws : List Row), fo.length ≤ 80 → 82 ≤ N + fo.length → Says (blocksW rec p d r l n fo.length bs) N fo (blocksK p d r l n bs) ws
  | [], n, N, fo, ws, hf, hN => says_nil hf hN
  | b :: bs, n, N, fo, ws, hf, hN => by
    rw [blocksK_cons]
    have h := hr (p ++ [n]) r l N fo (blocksK p d r l (n + 1) bs ++ ws) (elems b) hf hN
    show Says (match rec (p ++ [n]) d r l fo.length (elems b) with
      | (some q, m) => (some q, m)
      | (none, m) => blocksW rec p d r l (n + 1) m bs) N fo _ ws
    generalize rec (p ++ [n]) d r l fo.length (elems b) = wk at h ⊢
    obtain ⟨o, m⟩ := wk
    cases o with
    | some q =>
      have h : (surveyM N fo _).2 = some q := h
      show (surveyM N fo _).2 = some q
      rw [List.append_assoc]
      exact h
    | none =>
      obtain ⟨R, N', h3, h4, h5, h6⟩ := h
      have ih := blocksW_says hr p r l bs (n + 1) N' (fo ++ R) ws (by rw [h4]; exact h5) (by rw [h4]; exact h6)
      rw [h4] at ih
      show Says (blocksW rec p d r l (n + 1) m bs) N fo _ ws
      generalize blocksW rec p d r l (n + 1) m bs = wk at ih ⊢
      obtain ⟨o, m2⟩ := wk
      cases o with
      | some q =>
        have ih : (surveyM N' _ _).2 = some q := ih
        show (surveyM N fo _).2 = some q
        rw [List.append_assoc, h3]
        exact ih
      | none =>
        obtain ⟨R2, N2, i3, i4, i5, i6⟩ := ih
        refine ⟨R ++ R2, N2, ?_, ?_, i5, i6⟩
        · rw [List.append_assoc, h3, i3, List.append_assoc]
        · rw [← i4, List.append_assoc]
theorem innerOk : ∀ (f : Nat), InnerOk (innerW f) (8 - ((f : Nat) : Int)) ∧ RecOk (walkL f) (8 - ((f : Nat) : Int))
  | 0 => by
    have h1 : InnerOk (innerW 0) (8 - ((0 : Nat) : Int)) := fun p t r l N fo ws hok hf hN => by
      have hb := okRow_deep (show okRow ⟨p, t, 8, r, l⟩ = true from hok)
      show Says (none, fo.length) N fo (innerRows ⟨p, t, 8, r, l⟩) ws
      rw [show innerRows ⟨p, t, 8, r, l⟩ = [] by show (ofT blOf1 t).zipIdx.flatMap _ = []; rw [hb]; rfl]
      exact says_nil hf hN
    exact ⟨h1, fun p r l N fo ws ts hf hN => by rw [walkL_eq]; exact stepL_says h1 ts p r l 0 N fo ws (by decide) hf hN⟩
  | f + 1 => by
    obtain ⟨_, h2⟩ := innerOk f
    have h1 : InnerOk (innerW (f + 1)) (8 - ((f + 1 : Nat) : Int)) := fun p t r l N fo ws hok hf hN => by
      have hd : (8 - ((f + 1 : Nat) : Int)) + 1 = 8 - ((f : Nat) : Int) := by omega
      have := blocksW_says h2 p (inR (fw t) r) (inL (fw t) l) (ofT blOf1 t) 0 N fo ws hf hN
      show Says (blocksW (walkL f) p ((8 - ((f + 1 : Nat) : Int)) + 1) (inR (fw t) r) (inL (fw t) l) 0 fo.length (ofT blOf1 t)) N fo (innerRows ⟨p, t, 8 - ((f + 1 : Nat) : Int), r, l⟩) ws
      have e : innerRows ⟨p, t, 8 - ((f + 1 : Nat) : Int), r, l⟩ = blocksK p (8 - ((f : Nat) : Int)) (inR (fw t) r) (inL (fw t) l) 0 (ofT blOf1 t) := by
        rw [← hd]
        rfl
      rw [hd, e]
      exact this
    exact ⟨h1, fun p r l N fo ws ts hf hN => by rw [walkL_eq]; exact stepL_says h1 ts p r l 0 N fo ws (by decide) hf hN⟩
/-- the survey of a block -/
theorem survey_walk (ts : List Th) : (surveyT ts).2 = (walkL 7 [] 1 "top" false 0 ts).1 ∧ ((walkL 7 [] 1 "top" false 0 ts).1 = none → (surveyT ts).1.length = (walkL 7 [] 1 "top" false 0 ts).2) := by
  have h := (innerOk 7).2 [] "top" false 82 [] [] ts (by decide) (by decide)
  have h : Says (walkL 7 [] 1 "top" false 0 ts) 82 [] (rowsAt [] 1 "top" false ts) [] := h
  unfold surveyT
  generalize walkL 7 [] 1 "top" false 0 ts = wk at h ⊢
  obtain ⟨o, m⟩ := wk
  cases o with
  | some q =>
    have h : (surveyM 82 [] (rowsAt [] 1 "top" false ts ++ [])).2 = some q := h
    rw [List.append_nil] at h
    exact ⟨h, fun q => nomatch q⟩
  | none =>
    obtain ⟨R, N', h3, h4, h5, h6⟩ := h
    rw [List.append_nil] at h3
    rw [h3]
    obtain ⟨N, rfl⟩ : ∃ N, N' = N + 1 := ⟨N' - 1, by omega⟩
    exact ⟨rfl, fun _ => h4⟩
/-! a block that is good all through -/
theorem walk_good : ∀ (f : Nat) (p : List Nat) (r : Str) (l : Bool) (many : Nat) (ts : List Th), BlkOk (f + 1) r l ts → many + cntL (f + 1) ts ≤ 80 → walkL f p (8 - ((f : Nat) : Int)) r l many ts = (none, many + cntL (f + 1) ts) := by
  intro f
  induction f with
  | zero =>
    intro p r l many ts hb hc
    rw [walkL_eq]
    have step : ∀ (ts : List Th) (k many : Nat), k + ts.length ≤ 12 → (∀ t ∈ ts, OkS 1 r l t) → many + cntL 1 ts ≤ 80 → stepL (innerW 0) p (8 - ((0 : Nat) : Int)) r l k many ts = (none, many + cntL 1 ts) := by
      intro ts
      induction ts with
      | nil => intro k many _ _ _; rfl
      | cons t ts ih =>
        intro k many hk hts hc
        have ht := hts t List.mem_cons_self
        have hcnt : cntL 1 (t :: ts) = cntS 1 t + cntL 1 ts := rfl
        have h1 : cntS 1 t = 1 := by
          have hb : ofT blOf1 t = [] := okRow_deep (p := []) (show (stmtB t && fitsB t 8 r l) = true by rw [ht.2.1, show fitsB t 8 r l = true from ht.2.2.1]; rfl)
          show 1 + _ = 1
          rw [hb]
          rfl
        rw [List.length_cons] at hk
        show (if _ then _ else if _ then _ else _) = _
        rw [if_neg (by rw [decide_eq_false (by omega), decide_eq_false (by omega)]; decide), if_pos (show okRow ⟨p ++ [k], t, 8 - ((0 : Nat) : Int), r, l⟩ = true by show (stmtB t && fitsB t (8 - ((0 : Nat) : Int)) r l) = true; rw [ht.2.1, show fitsB t (8 - ((0 : Nat) : Int)) r l = true from ht.2.2.1]; rfl)]
        show stepL (innerW 0) p _ r l (k + 1) (many + 1) ts = _
        rw [ih (k + 1) (many + 1) (by omega) (fun u hu => hts u (List.mem_cons_of_mem _ hu)) (by omega), hcnt, h1, Nat.add_assoc]
    exact step ts 0 many (by have := hb.1; omega) hb.2 hc
  | succ f ihf =>
    intro p r l many ts hb hc
    rw [walkL_eq]
    have blocks : ∀ (p : List Nat) (r : Str) (l : Bool) (bs : List Th) (n many : Nat), (∀ b ∈ bs, ∃ us, b = .lst us ∧ us.length ≤ 12 ∧ ∀ u ∈ us, OkS (f + 1) r l u) → many + (bs.map fun b => ((elems b).map (cntS (f + 1))).sum).sum ≤ 80 → blocksW (walkL f) p (8 - ((f : Nat) : Int)) r l n many bs = (none, many + (bs.map fun b => ((elems b).map (cntS (f + 1))).sum).sum) := by
      intro p r l bs
      induction bs with
      | nil => intro n many _ _; rfl
      | cons b bs ih =>
        intro n many hbs hc
        obtain ⟨us, rfl, hu⟩ := hbs b List.mem_cons_self
        have hsum : (((Th.lst us) :: bs).map fun b => ((elems b).map (cntS (f + 1))).sum).sum = cntL (f + 1) us + (bs.map fun b => ((elems b).map (cntS (f + 1))).sum).sum := rfl
        rw [hsum] at hc ⊢
        show (match walkL f (p ++ [n]) (8 - ((f : Nat) : Int)) r l many us with
          | (some q, m) => (some q, m)
          | (none, m) => blocksW (walkL f) p (8 - ((f : Nat) : Int)) r l (n + 1) m bs) = _
        rw [ihf (p ++ [n]) r l many us hu (by omega)]
        show blocksW (walkL f) p (8 - ((f : Nat) : Int)) r l (n + 1) (many + cntL (f + 1) us) bs = _
        rw [ih (n + 1) _ (fun b hb => hbs b (List.mem_cons_of_mem _ hb)) (by omega), Nat.add_assoc]
    have step : ∀ (ts : List Th) (k many : Nat), k + ts.length ≤ 12 → (∀ t ∈ ts, OkS (f + 2) r l t) → many + cntL (f + 2) ts ≤ 80 → stepL (innerW (f + 1)) p (8 - ((f + 1 : Nat) : Int)) r l k many ts = (none, many + cntL (f + 2) ts) := by
      intro ts
      induction ts with
      | nil => intro k many _ _ _; rfl
      | cons t ts ih =>
        intro k many hk hts hc
        have ht := hts t List.mem_cons_self
        have hcnt : cntL (f + 2) (t :: ts) = cntS (f + 2) t + cntL (f + 2) ts := rfl
        have h1 : cntS (f + 2) t = 1 + ((ofT blOf1 t).map fun b => ((elems b).map (cntS (f + 1))).sum).sum := rfl
        rw [List.length_cons] at hk
        show (if _ then _ else if _ then _ else _) = _
        rw [if_neg (by rw [decide_eq_false (by omega), decide_eq_false (by omega)]; decide), if_pos (show okRow ⟨p ++ [k], t, 8 - ((f + 1 : Nat) : Int), r, l⟩ = true by show (stmtB t && fitsB t (8 - ((f + 1 : Nat) : Int)) r l) = true; rw [ht.2.1, show fitsB t (8 - ((f + 1 : Nat) : Int)) r l = true from ht.2.2.1]; rfl)]
        have hin : innerW (f + 1) (p ++ [k]) (8 - ((f + 1 : Nat) : Int) + 1) (inR (fw t) r) (inL (fw t) l) (many + 1) (ofT blOf1 t) = (none, many + cntS (f + 2) t) := by
          show blocksW (walkL f) (p ++ [k]) (8 - ((f + 1 : Nat) : Int) + 1) (inR (fw t) r) (inL (fw t) l) 0 (many + 1) (ofT blOf1 t) = _
          rw [show 8 - ((f + 1 : Nat) : Int) + 1 = 8 - ((f : Nat) : Int) by omega, blocks (p ++ [k]) _ _ (ofT blOf1 t) 0 (many + 1) ht.2.2.2 (by omega), h1, Nat.add_assoc]
        rw [hin]
        show stepL (innerW (f + 1)) p _ r l (k + 1) (many + cntS (f + 2) t) ts = _
        rw [ih (k + 1) _ (by omega) (fun u hu => hts u (List.mem_cons_of_mem _ hu)) (by omega), hcnt, Nat.add_assoc]
    exact step ts 0 many (by have := hb.1; omega) hb.2 hc
theorem prog_good {ts : List Th} (hb : BlkOk 8 "top" false ts) (hc : cntL 8 ts ≤ 80) : progM (.lst ts) = none := by
  show (if ts.length ≤ 12 then (surveyT ts).2 else some []) = none
  rw [if_pos hb.1, (survey_walk ts).1]
  have := walk_good 7 [] "top" false 0 ts hb (by rw [Nat.zero_add]; exact hc)
  rw [show walkL 7 [] 1 "top" false 0 ts = _ from this]
end K0
/-! ## K6L -/
set_option Elab.async false
set_option linter.all false
set_option maxRecDepth 100000
set_option maxHeartbeats 4000000
namespace K0
open PySem PySem.Spec PyProof.Rows L2 Evl RZ KB
theorem cutV_drop (xs : List V) (n : Nat) : cutV xs (some (n : Int)) none = xs.drop n := by
  by_cases h : n ≤ xs.length
  · exact cutV_from xs n h
  · unfold cutV
    rw [HT.sIx_nat, HT.sIx_none, Nat.min_eq_right (by omega)]
    rw [List.drop_of_length_le (by omega), List.drop_of_length_le (by omega), List.take_nil]
def NN (B : Nat) (t : Th) : Prop := ∃ n : Nat, n ≤ B ∧ t = .int ((n : Nat) : Int)
section
variable {P : Program} {w : World} {K : PySem.W.Frag} {mg : Str → Option Value} {base : Heap} {σ : L2.St} {H H' H0 : Hp} {ta tb tc td te tl tv tk ti to : TE} {tr : TA} {x y kv v : V} {X0 : XK} {t u : TT} {tu tz : TS} {D : Ends} {g : TG} {R : V → Hp → Prop} {s : Addr} {sc sc' : Sc}
theorem RepsN.get : ∀ {vs : List V} {ts : List Th} {i : Nat} {v : V}, RepsN K H0 H vs ts → vs[i]? = some v → ∃ t, ts[i]? = some t ∧ RepN K H0 H v t
  | _, _, _, _, .nil, e => by simp at e
  | _, _, 0, _, .cons h _, e => by
    simp at e
    subst e
    exact ⟨_, by simp, h⟩
  | _, _, i + 1, v, .cons _ r, e => by
    obtain ⟨t, h1, h2⟩ := RepsN.get (i := i) (v := v) r (by simpa using e)
    exact ⟨t, by simpa using h1, h2⟩
theorem RepsN.append : ∀ {vs vs' : List V} {ts ts' : List Th}, RepsN K H0 H vs ts → RepsN K H0 H vs' ts' → RepsN K H0 H (vs ++ vs') (ts ++ ts')
  | _, _, _, _, .nil, r => r
  | _, _, _, _, .cons h r, r' => .cons h (RepsN.append r r')
def EnN (K : PySem.W.Frag) (H0 : Hp) (te : TE) (σ : L2.St) (H : Hp) (t : Th) : Prop := EvR te σ H (fun v H' => RepN K H0 H' v t)
def EnNA (K : PySem.W.Frag) (H0 : Hp) (ta : TA) (σ : L2.St) (H : Hp) (ts : List Th) : Prop := ∀ H1, Ex H H1 → ∀ Q : List V → Hp → Prop, (∀ vs H2, Ex H1 H2 → RepsN K H0 H2 vs ts → Q vs H2) → ta σ H1 Q
theorem nn_var {i : Nat} {v : V} {t : Th} (h : σ[i]? = some (some v)) (r : RepN K H0 H v t) : EnN K H0 (tVar i) σ H t := fun H1 e Q q => ⟨v, h, q v H1 (Ex.refl _) (r.mono e)⟩
theorem nn_ev {v : V} {t : Th} (h : Ev te σ H v) (r : RepN K H0 H v t) : EnN K H0 te σ H t := fun H1 e Q q => h H1 e _ fun H2 e2 => q v H2 e2 (r.mono (e.trans e2))
theorem nn_str (s : Str) : EnN K H0 (tC (.str s)) σ H (.str s) := fun H1 e Q q => q _ H1 (Ex.refl _) (.str s)
theorem nn_int (i : Int) : EnN K H0 (tC (.int i)) σ H (.int i) := fun H1 e Q q => q _ H1 (Ex.refl _) (.int i)
theorem nn_bl (b : Bool) : EnN K H0 (tC (.bl b)) σ H (.bl b) := fun H1 e Q q => q _ H1 (Ex.refl _) (.bl b)
theorem nn_non : EnN K H0 (tC .non) σ H .non := fun H1 e Q q => q _ H1 (Ex.refl _) .non
theorem nna_nil : EnNA K H0 tNil σ H [] := fun H1 _ Q q => q [] H1 (Ex.refl _) .nil
theorem nna_cons {t : Th} {ts : List Th} (h : EnN K H0 te σ H t) (hr : EnNA K H0 tr σ H ts) : EnNA K H0 (tCons te tr) σ H (t :: ts) := fun H1 e Q q =>
  h H1 e _ fun v H2 e2 r => hr H2 (e.trans e2) _ fun vs H3 e3 rs => q (v :: vs) H3 (e2.trans e3) (.cons (r.mono e3) rs)
theorem nn_tup {ts : List Th} (h : EnNA K H0 tr σ H ts) (hl : ts.length ≤ 1000) : EnN K H0 (tTup tr) σ H (.tup ts) := fun H1 e Q q =>
  h H1 e _ fun vs H2 e2 rs => ⟨sz_of (by rw [rs.length]; omega), fun p hp => q _ _ (e2.trans (Ex.new hp)) (.tup (st_of upd_same) (rs.mono (Ex.new hp)))⟩
theorem nn_lst {ts : List Th} (dm : Dm H0 H) (h : EnNA K H0 tr σ H ts) (hl : ts.length ≤ 1000) : EnN K H0 (tLst tr) σ H (.lst ts) := fun H1 e Q q =>
  h H1 e _ fun vs H2 e2 rs => ⟨sz_of (by rw [rs.length]; omega), fun p hp => q _ _ (e2.trans (Ex.new hp)) (.lst (dm p (fresh_back (e.trans e2) hp)) upd_same (rs.mono (Ex.new hp)))⟩
theorem nn_ret {t : Th} (h : EnN K H0 te σ H t) (k : ∀ v H1, Ex H H1 → RepN K H0 H1 v t → D.rt v H1) : tRet te D σ H := h H (Ex.refl _) _ k
theorem nn_cat {ts us : List Th} (dm : Dm H0 H) (h1 : EnN K H0 ta σ H (.lst ts)) (h2 : EnN K H0 tb σ H (.lst us)) (hl : ts.length + us.length ≤ 1000) : EnN K H0 (tOp rCat ta tb) σ H (.lst (ts ++ us)) := fun H1 e Q q =>
  h1 H1 e _ fun v H2 e2 r => h2 H2 (e.trans e2) _ fun v3 H3 e3 r3 => by
    have r := r.mono e3
    cases r with
    | lst _ ha rs =>
      cases r3 with
      | lst _ hb rs3 => exact ⟨_, _, _, _, rfl, rfl, ha, hb, sz_of (by rw [rs.length, rs3.length]; omega), fun p hp => q _ _ ((e2.trans e3).trans (Ex.new hp)) (.lst (dm p (fresh_back ((e.trans e2).trans e3) hp)) upd_same ((rs.append rs3).mono (Ex.new hp)))⟩
theorem nn_listL {ts : List Th} (dm : Dm H0 H) (h : EnN K H0 te σ H (.lst ts)) : EnN K H0 (tCB (rListS K) (tCons te tNil)) σ H (.lst ts) := fun H1 e Q q =>
  h H1 e _ fun v H2 e2 r => by
    cases r with
    | lst _ ha rs => exact ⟨_, _, rfl, .inl (sq_of ha), fun p hp => q _ _ (e2.trans (Ex.new hp)) (.lst (dm p (fresh_back (e.trans e2) hp)) upd_same (rs.mono (Ex.new hp)))⟩
theorem repsN_rep {v : V} {t : Th} (r : RepN K H0 H v t) : ∀ n : Nat, RepsN K H0 H (List.replicate n [v]).flatten (List.replicate n t)
  | 0 => .nil
  | n + 1 => by
    rw [List.replicate_succ, List.flatten_cons, List.replicate_succ]
    exact .cons r (repsN_rep r n)
/-- [..] * n, n drawn or not -/
theorem dx_rep {t : Th} {m : Nat} (n0 : H0 s ≠ none) (dm : Dm H0 H) (S : SrcAt H s sc) (hm : m ≤ 1000) (h : EnN K H0 te σ H (.lst [t])) (hb : ∀ H1, Ex H H1 → EvX tb σ H1 (fun v H' => ∃ n : Nat, v = .int ((n : Nat) : Int) ∧ n ≤ m ∧ Dr s sc H1 H')) :
    DX K s sc H0 (tOp rRep te tb) σ H (fun u => ∃ n : Nat, n ≤ m ∧ u = .lst (List.replicate n t)) := fun Q q => h H (Ex.refl H) _ fun v H1 e1 r => hb H1 e1 _ fun v2 H2 ⟨n, hv, hn, d⟩ => by
  have dm2 := (dm.trans (Dm.of e1)).trans d.dm
  have r2 := r.dr n0 (S.mono e1) d
  cases r2 with
  | lst ha0 ha rs =>
  cases rs with
  | cons r0 rs =>
  cases rs
  exact ⟨_, _, _, rfl, hv, ha, by omega, by omega, sz_of (by simp; omega), fun p hp => q _ _ ⟨_, .lst (dm2 p hp) upd_same (by rw [Int.toNat_natCast]; exact (repsN_rep r0 n).mono (Ex.new hp)), ⟨n, hn, rfl⟩, (Dr.of S e1).trans (d.trans (Dr.of d.2 (Ex.new hp)))⟩⟩
theorem nn_pick {ts : List Th} {i : Nat} {t : Th} (h : EnN K H0 te σ H (.lst ts)) (hb : Ev tb σ H (.int ((i : Nat) : Int))) (hi : ts[i]? = some t) : EnN K H0 (tOp (rIxL K) te tb) σ H t := fun H1 e Q q => h H1 e _ fun v H2 e2 r => hb H2 (e.trans e2) _ fun H3 e3 => by
  have r := r.mono e3
  cases r with
  | lst ha0 ha rs =>
  rename_i a vs
  have hl := rs.length
  obtain ⟨y, hy⟩ : ∃ y, vs[i]? = some y := ⟨_, List.getElem?_eq_getElem (by have := (List.getElem?_eq_some_iff.mp hi).1; omega)⟩
  obtain ⟨t', ht', rt⟩ := rs.get hy
  rw [hi] at ht'
  cases ht'
  exact ⟨_, _, _, y, rfl, rfl, sq_of ha, atI_nat hy, q y H3 (e2.trans e3) rt⟩
theorem x_draw' {E : XK} {m : Nat} (h0 : Ev ta σ H (.ref s)) (h1 : Ev tb σ H (.int ((m : Nat) : Int))) (S : SrcAt H s sc) (m0 : 0 < m) (m1 : m < 1000000) : EvX (tCall (SpDraw K) [] E (tCons ta (tCons tb tNil))) σ H (fun v H' => ∃ n : Nat, v = .int ((n : Nat) : Int) ∧ n ≤ m - 1 ∧ Dr s sc H H') := (x_draw h0 h1 S (by omega) (by omega)).imp fun v H2 ⟨d, hv, d0, d1, dr⟩ => ⟨d.toNat, by rw [hv]; congr 1; omega, by omega, dr⟩
theorem RepsN.drop : ∀ {vs : List V} {ts : List Th} (n : Nat), RepsN K H0 H vs ts → RepsN K H0 H (vs.drop n) (ts.drop n)
  | _, _, 0, r => r
  | _, _, _ + 1, .nil => .nil
  | _, _, n + 1, .cons _ r => RepsN.drop n r
theorem nn_drop {ts : List Th} {n : Nat} {tl th : TO} (dm : Dm H0 H) (h : EnN K H0 te σ H (.lst ts)) (h1 : EvO tl σ H (some (n : Nat))) (h2 : EvO th σ H none) : EnN K H0 (tSl (rSlL K) te tl th) σ H (.lst (ts.drop n)) := fun H1 e Q q =>
  h H1 e _ fun v H2 e2 r => h1 H2 (e.trans e2) _ fun H3 e3 => h2 H3 ((e.trans e2).trans e3) _ fun H4 e4 => by
    have r := r.mono (e3.trans e4)
    cases r with
    | lst h0 ha rs => exact ⟨_, _, rfl, sq_of ha, fun p hp => q _ _ (((e2.trans e3).trans e4).trans (Ex.new hp)) (.lst ((dm.trans (Dm.of (((e.trans e2).trans e3).trans e4))) p hp) upd_same (by rw [cutV_drop]; exact (rs.drop n).mono (Ex.new hp)))⟩
theorem nn_rep {t : Th} {n : Nat} (dm : Dm H0 H) (h : EnN K H0 te σ H (.lst [t])) (hb : Ev tb σ H (.int ((n : Nat) : Int))) (hn : n ≤ 1000) : EnN K H0 (tOp rRep te tb) σ H (.lst (List.replicate n t)) := fun H1 e Q q =>
  h H1 e _ fun v H2 e2 r => hb H2 (e.trans e2) _ fun H3 e3 => by
    have r := r.mono e3
    cases r with
    | lst h0 ha rs =>
    cases rs with
    | cons r0 rs =>
    cases rs
    exact ⟨_, _, _, rfl, rfl, ha, by omega, by omega, sz_of (by simp; omega), fun p hp => q _ _ ((e2.trans e3).trans (Ex.new hp)) (.lst ((dm.trans (Dm.of ((e.trans e2).trans e3))) p hp) upd_same (by rw [Int.toNat_natCast]; exact (repsN_rep r0 n).mono (Ex.new hp)))⟩
theorem nn_is {t t' : Th} (h : EnN K H0 te σ H t) (e : t = t') : EnN K H0 te σ H t' := e ▸ h
theorem dan_nil {G : Th → Prop} (S : SrcAt H s sc) : DA K s sc H0 tNil σ H (fun ts => ts.length = 0 ∧ ∀ u ∈ ts, G u) := fun Q q => q [] [] H .nil ⟨rfl, fun _ h => (List.not_mem_nil h).elim⟩ (Dr.refl S)
theorem dan_cons {m : Nat} {G : Th → Prop} (n0 : H0 s ≠ none) (ha : DX K s sc H0 ta σ H G) (hr : ∀ H1, Dr s sc H H1 → DA K s sc H0 tr σ H1 (fun ts => ts.length = m ∧ ∀ u ∈ ts, G u)) : DA K s sc H0 (tCons ta tr) σ H (fun ts => ts.length = m + 1 ∧ ∀ u ∈ ts, G u) := fun Q q =>
  ha _ fun v H1 ⟨t, rt, ft, d⟩ => hr H1 d _ fun vs ts H2 rs gs d2 => q _ _ H2 (.cons (rt.dr n0 d.2 d2) rs) ⟨by rw [List.length_cons, gs.1], bls_cons ft gs.2⟩ (d.trans d2)
theorem dx_nn {B n : Nat} (S : SrcAt H s sc) (h : n ≤ B) : DX K s sc H0 (tC (.int ((n : Nat) : Int))) σ H (NN B) := dx_ev (t := .int ((n : Nat) : Int)) ev_c (.int _) ⟨n, h, rfl⟩ S
theorem dx_nd {E : XK} {B m : Nat} (S : SrcAt H s sc) (ha : Ev ta σ H (.ref s)) (h : m ≤ B + 1) (m0 : 0 < m) (m1 : m < 1000000) : DX K s sc H0 (tCall (SpDraw K) [] E (tCons ta (tCons (tC (.int ((m : Nat) : Int))) tNil))) σ H (NN B) := (x_draw' ha ev_c S m0 m1).imp fun v H2 ⟨n, hv, hn, d⟩ => ⟨.int ((n : Nat) : Int), by rw [hv]; exact .int _, ⟨n, by omega, rfl⟩, d⟩
theorem dx_pick {m : Nat} {G : Th → Prop} {E : XK} (dm : Dm H0 H) (n0 : H0 s ≠ none) (h : DA K s sc H0 tr σ H (fun ts => ts.length = m ∧ ∀ u ∈ ts, G u)) (hb : ∀ H1, Ev tb σ H1 (.ref s)) (m0 : 0 < m) (m1 : m ≤ 1000) :
    DX K s sc H0 (tOp (rIxL K) (tLst tr) (tCall (SpDraw K) [] E (tCons tb (tCons (tC (.int ((m : Nat) : Int))) tNil)))) σ H G := fun Q q =>
  (dl_lst dm h fun ts gs => by have := gs.1; omega) _ fun v H1 ⟨p, vs, ts, H2, hv, hp, hH, rs, gs, d⟩ => by
    subst hv hH
    have e := Ex.new (o := .lst vs) hp
    have S2 := d.2.mono e
    refine (x_draw' (K := K) (m := m) (hb _) ev_c S2 m0 (by omega)) _ fun v H3 ⟨n, hv, hn, d3⟩ => ?_
    have np : p ≠ s := fun zz => d.2.some (zz ▸ hp)
    have hl := rs.length
    obtain ⟨y, hy⟩ : ∃ y, vs[n]? = some y := ⟨_, List.getElem?_eq_getElem (by have := gs.1; omega)⟩
    obtain ⟨t, ht, rt⟩ := rs.get hy
    exact ⟨p, vs, ((n : Nat) : Int), y, rfl, hv, sq_of (d3.at upd_same np), atI_nat hy, q y H3 ⟨t, (rt.mono e).dr n0 S2 d3, gs.2 t (List.mem_of_getElem? ht), (d.trans (Dr.of d.2 e)).trans d3⟩⟩
end
end K0
/-! ## K6I -/
set_option Elab.async false
set_option linter.all false
set_option maxRecDepth 100000
set_option maxHeartbeats 4000000
namespace K0
open PySem PySem.Spec PyProof.Rows L2 Evl RZ KB
/-! the blocks of a statement, as the laws list them -/
theorem lk_mem {α : Type} {w : Str} {l : α} : ∀ {ps : List (Str × α)}, ps.lookup w = some l → (w, l) ∈ ps
  | [], h => by cases h
  | (a, b) :: ps, h => by
    rw [List.lookup_cons] at h
    by_cases e : (w == a) = true
    · rw [e] at h
      cases h
      rw [beq_iff_eq.mp e]
      exact List.mem_cons_self
    · rw [show (w == a) = false by simpa using e] at h
      exact List.mem_cons_of_mem _ (lk_mem h)
theorem no_blocks {w : Str} {l : List Str} (hl : t_STATEMENTS.lookup w = some l) (h : w ≠ "if" ∧ w ≠ "while" ∧ w ≠ "try" ∧ w ≠ "def" ∧ w ≠ "class") : ∀ k ∈ l, k ≠ "block" ∧ k ≠ "methods" := by
  have q : (t_STATEMENTS.all fun p => decide (p.1 = "if") || (decide (p.1 = "while") || (decide (p.1 = "try") || (decide (p.1 = "def") || (decide (p.1 = "class") || p.2.all fun k => decide (k ≠ "block") && decide (k ≠ "methods")))))) = true := by decide +kernel
  have q2 := List.all_eq_true.mp q _ (lk_mem hl)
  rw [decide_eq_false h.1, decide_eq_false h.2.1, decide_eq_false h.2.2.1, decide_eq_false h.2.2.2.1, decide_eq_false h.2.2.2.2] at q2
  intro k hk
  have q3 := List.all_eq_true.mp (by simpa using q2 : (l.all fun k => decide (k ≠ "block") && decide (k ≠ "methods")) = true) k hk
  have q4 := Bool.and_eq_true_iff.mp q3
  exact ⟨of_decide_eq_true q4.1, of_decide_eq_true q4.2⟩
theorem flat_none {f : Str → Th → List Th} : ∀ {l : List Str} {us : List Th}, (∀ k ∈ l, ∀ u, f k u = []) → (l.zip us).flatMap (fun p => f p.1 p.2) = []
  | [], _, _ => rfl
  | _ :: _, [], _ => rfl
  | k :: l, u :: us, h => by
    rw [List.zip_cons_cons, List.flatMap_cons, h k List.mem_cons_self u, flat_none fun k hk => h k (List.mem_cons_of_mem _ hk)]
    rfl
theorem bl_none {w : Str} {l : List Str} {us : List Th} (hl : t_STATEMENTS.lookup w = some l) (h : w ≠ "if" ∧ w ≠ "while" ∧ w ≠ "try" ∧ w ≠ "def" ∧ w ≠ "class") : ofT blOf1 (.tup (.str w :: us)) = [] := by
  show (((t_STATEMENTS.lookup (fw (.tup (.str w :: us)))).getD []).zip us).flatMap (fun p => blOf1 p.1 p.2) = []
  rw [fw_str, hl]
  refine flat_none fun k hk u => ?_
  obtain ⟨h1, h2⟩ := no_blocks hl h k hk
  unfold blOf1
  rw [if_neg h1, if_neg h2]
theorem len2 {α : Type} {us : List α} (h : us.length = 2) : ∃ a b, us = [a, b] := by
  match us, h with
  | [a, b], _ => exact ⟨a, b, rfl⟩
theorem len3 {α : Type} {us : List α} (h : us.length = 3) : ∃ a b c, us = [a, b, c] := by
  match us, h with
  | [a, b, c], _ => exact ⟨a, b, c, rfl⟩
theorem len4 {α : Type} {us : List α} (h : us.length = 4) : ∃ a b c d, us = [a, b, c, d] := by
  match us, h with
  | [a, b, c, d], _ => exact ⟨a, b, c, d, rfl⟩
mutual
theorem Rep.toN {K : PySem.W.Frag} {H : Hp} : ∀ {v : V} {t : Th}, Rep K H v t → RepN K (fun _ => none) H v t
  | _, _, .non => .non
  | _, _, .bl b => .bl b
  | _, _, .int i => .int i
  | _, _, .str x => .str x
  | _, _, .lst h r => .lst rfl h (Reps.toN r)
  | _, _, .tup h r => .tup h (Reps.toN r)
  | _, _, .dic h => .dic h
theorem Reps.toN {K : PySem.W.Frag} {H : Hp} : ∀ {vs : List V} {ts : List Th}, Reps K H vs ts → RepsN K (fun _ => none) H vs ts
  | _, _, .nil => .nil
  | _, _, .cons h r => .cons (Rep.toN h) (Reps.toN r)
end
theorem dm_empty (H : Hp) : Dm (fun _ => none) H := fun _ _ => rfl
section
variable {P : Program} {w : World} {K : PySem.W.Frag} {mg : Str → Option Value} {base : Heap} {σ : L2.St} {H H' H0 : Hp} {ta tb tc td te tl tv tk ti to : TE} {tr : TA} {x y kv v : V} {X0 : XK} {t u : TT} {tu tz : TS} {D : Ends} {g : TG} {R : V → Hp → Prop} {s : Addr} {sc sc' : Sc}
theorem third_items : ∀ {vm : List V} {ms : List Th}, RepsN K H0 H vm ms → (∀ m ∈ ms, methodB m = true) → ∃ ys : List V, ys.length = vm.length ∧ RepsN K H0 H ys (ms.map thirdT) ∧ ∀ (i : Nat) (x y : V), vm[i]? = some x → ys[i]? = some y → ∃ p c0 c1, x = .ref p ∧ SqT K H p [c0, c1, y]
  | _, _, .nil, _ => ⟨[], rfl, .nil, fun i x y h => by simp at h⟩
  | _, _, .cons (t := mt) h1 r, hm => by
    obtain ⟨ys, i1, i2, i3⟩ := third_items r fun m h => hm m (List.mem_cons_of_mem _ h)
    have hmB := hm mt List.mem_cons_self
    unfold methodB at hmB
    split at hmB
    · cases h1 with
      | tup hTm rTm =>
        cases rTm with
        | cons q0 rTm =>
        cases rTm with
        | cons q1 rTm =>
        cases rTm with
        | cons q2 rTm =>
        cases rTm
        refine ⟨_ :: ys, by rw [List.length_cons, List.length_cons, i1], .cons q2 i2, fun i x y hx hy => ?_⟩
        cases i with
        | zero =>
          simp at hx hy
          subst hx hy
          exact ⟨_, _, _, rfl, hTm⟩
        | succ i => exact i3 i x y (by simpa using hx) (by simpa using hy)
    · cases hmB
def SpInner (K : PySem.W.Frag) : Sp := fun vs H Q _ => ∃ x t H0, vs = [x] ∧ Dm H0 H ∧ RepN K H0 H x t ∧ stmtB t = true ∧ ∀ v H', Ex H H' → RepN K H0 H' v (.lst (ofT blOf1 t)) → Q v H'
theorem nn_inner {E : XK} {t : Th} (h : Ev ta σ H x) (dm : Dm H0 H) (r : RepN K H0 H x t) (ht : stmtB t = true) : EnN K H0 (tCall (SpInner K) [] E (tCons ta tNil)) σ H (.lst (ofT blOf1 t)) := fun H1 e Q q =>
  ea_cons h ea_nil H1 e _ fun H2 e2 => ⟨x, t, H0, rfl, dm.trans (Dm.of (e.trans e2)), r.mono (e.trans e2), ht, fun v H3 e3 r3 => q v H3 (e2.trans e3) r3⟩
theorem f_inner (z : Cz w K mg) : Cl P w K mg base 1 "_law_inner" (SpInner K) := by
  refine cal_of (k := 0) z.fn__law_inner z.glo__law_inner K0.c__law_inner (fun vs H Q E h => ?_) (fun cdv A outer s H vs Q _ hr h => ?_)
  · obtain ⟨x, t, H0, rfl, _⟩ := h
    rfl
  · obtain ⟨x, t, H0, rfl, dm, r, hs, k⟩ := h
    obtain ⟨wd, l, us, rfl, hfw, hl, hlen, hp⟩ := stmt_parts hs
    refine ⟨_, (pss_cons (ps_if (pt_cmpR op_eq (pe_ix (show IxR _ (rIxT K) from ix_tup) (pv 0) pe_int (fun _ _ => rfl)) pe_str (nomark _)) (pss_one (ps_ret (pe_lst (pa_cons (pe_ix (show IxR _ (rIxT K) from ix_tup) (pv 0) pe_int (fun _ _ => rfl)) (pa_cons (pe_ix (show IxR _ (rIxT K) from ix_tup) (pv 0) pe_int (fun _ _ => rfl)) pa_nil))))) pss_nil)
      (pss_cons (ps_if (pt_cmpR op_eq (pe_ix (show IxR _ (rIxT K) from ix_tup) (pv 0) pe_int (fun _ _ => rfl)) pe_str (nomark _)) (pss_one (ps_ret (pe_lst (pa_cons (pe_ix (show IxR _ (rIxT K) from ix_tup) (pv 0) pe_int (fun _ _ => rfl)) pa_nil)))) pss_nil)
      (pss_cons (ps_if (pt_cmpR op_eq (pe_ix (show IxR _ (rIxT K) from ix_tup) (pv 0) pe_int (fun _ _ => rfl)) pe_str (nomark _)) (pss_one (ps_ret (pe_lst (pa_cons (pe_ix (show IxR _ (rIxT K) from ix_tup) (pv 0) pe_int (fun _ _ => rfl)) (pa_cons (pe_ix (show IxR _ (rIxT K) from ix_tup) (pv 0) pe_int (fun _ _ => rfl)) (pa_cons (pe_ix (show IxR _ (rIxT K) from ix_tup) (pv 0) pe_int (fun _ _ => rfl)) pa_nil)))))) pss_nil)
      (pss_cons (ps_if (pt_cmpR op_eq (pe_ix (show IxR _ (rIxT K) from ix_tup) (pv 0) pe_int (fun _ _ => rfl)) pe_str (nomark _)) (pss_one (ps_ret (pe_lst (pa_cons (pe_ix (show IxR _ (rIxT K) from ix_tup) (pv 0) pe_int (fun _ _ => rfl)) pa_nil)))) pss_nil)
      (pss_cons (ps_if (pt_cmpR op_eq (pe_ix (show IxR _ (rIxT K) from ix_tup) (pv 0) pe_int (fun _ _ => rfl)) pe_str (nomark _)) (pss_one (ps_ret (pe_lc (own := [("_law_method", 1)]) rfl K0.c__law_inner.nd (pi_list (pe_ix (show IxR _ (rIxT K) from ix_tup) (pv 0) pe_int (fun _ _ => rfl))) (blkOk_by (N := N__law_inner) (sc := defScope s__law_inner) (by decide +kernel)) (fun _ _ _ _ _ => (pg_name (i := 1) K0.c__law_inner.nd rfl (.inl rfl))) (fun _ _ _ _ _ => pts_nil) (fun _ _ _ _ _ => (pe_ix (show IxR _ (rIxT K) from ix_tup) (pv 1) pe_int (fun _ _ => rfl)))))) pss_nil)
      (pss_one (ps_ret (pe_lst pa_nil)))))))), ?_⟩
    cases r with
    | tup hT rs =>
    cases rs with
    | cons r1 rs =>
    cases r1
    rename_i a vs
    refine q_when (b := decide (wd = "if")) (et_test (ev_op (ev_ixT (i := 0) (ev_var rfl) hT rfl) ev_c rv_sEq)) (fun hb H1 e1 => ?_) (fun hb H1 e1 => ?_)
    · have hw := of_decide_eq_true hb
      subst hw
      have hl2 : l = (["expression", "block", "block"] : List Str) := (Option.some.inj ((lookS (by decide +kernel)).symm.trans hl)).symm
      subst hl2
      obtain ⟨u0, u1, u2, rfl⟩ := len3 hlen
      cases rs with
      | cons r0 rs =>
      cases rs with
      | cons r1 rs =>
      cases rs with
      | cons r2 rs =>
      cases rs
      exact nn_ret (t := .lst [u1, u2]) (nn_lst (dm.trans (Dm.of e1)) (nna_cons (nn_ev (ev_ixT (i := 2) (ev_var rfl) (ex_t e1 hT) rfl) (r1.mono e1)) (nna_cons (nn_ev (ev_ixT (i := 3) (ev_var rfl) (ex_t e1 hT) rfl) (r2.mono e1)) nna_nil)) (by simp)) fun v H2 e2 rv => k v H2 (e1.trans e2) (by rw [show ofT blOf1 (.tup [.str "if", u0, u1, u2]) = [u1, u2] by kernel_rfl]; exact rv)
    have w1 : ¬ wd = "if" := of_decide_eq_false hb
    have hT1 := ex_t e1 hT
    refine q_when (b := decide (wd = "while")) (et_test (ev_op (ev_ixT (i := 0) (ev_var rfl) hT1 rfl) ev_c rv_sEq)) (fun hb2 H2 e2 => ?_) (fun hb2 H2 e2 => ?_)
    · have hw := of_decide_eq_true hb2
      subst hw
      have e2 := e1.trans e2
      have hl2 : l = (["expression", "block"] : List Str) := (Option.some.inj ((lookS (by decide +kernel)).symm.trans hl)).symm
      subst hl2
      obtain ⟨u0, u1, rfl⟩ := len2 hlen
      cases rs with
      | cons r0 rs =>
      cases rs with
      | cons r1 rs =>
      cases rs
      exact nn_ret (t := .lst [u1]) (nn_lst (dm.trans (Dm.of e2)) (nna_cons (nn_ev (ev_ixT (i := 2) (ev_var rfl) (ex_t e2 hT) rfl) (r1.mono e2)) nna_nil) (by simp)) fun v H3 e3 rv => k v H3 (e2.trans e3) (by rw [show ofT blOf1 (.tup [.str "while", u0, u1]) = [u1] by kernel_rfl]; exact rv)
    have w2 : ¬ wd = "while" := of_decide_eq_false hb2
    have e2 := e1.trans e2
    have hT2 := ex_t e2 hT
    refine q_when (b := decide (wd = "try")) (et_test (ev_op (ev_ixT (i := 0) (ev_var rfl) hT2 rfl) ev_c rv_sEq)) (fun hb3 H3 e3 => ?_) (fun hb3 H3 e3 => ?_)
    · have hw := of_decide_eq_true hb3
      subst hw
      have e3 := e2.trans e3
      have hl2 : l = (["block", "perhaps a name", "block", "block"] : List Str) := (Option.some.inj ((lookS (by decide +kernel)).symm.trans hl)).symm
      subst hl2
      obtain ⟨u0, u1, u2, u3, rfl⟩ := len4 hlen
      cases rs with
      | cons r0 rs =>
      cases rs with
      | cons r1 rs =>
      cases rs with
      | cons r2 rs =>
      cases rs with
      | cons r3 rs =>
      cases rs
      exact nn_ret (t := .lst [u0, u2, u3]) (nn_lst (dm.trans (Dm.of e3)) (nna_cons (nn_ev (ev_ixT (i := 1) (ev_var rfl) (ex_t e3 hT) rfl) (r0.mono e3)) (nna_cons (nn_ev (ev_ixT (i := 3) (ev_var rfl) (ex_t e3 hT) rfl) (r2.mono e3)) (nna_cons (nn_ev (ev_ixT (i := 4) (ev_var rfl) (ex_t e3 hT) rfl) (r3.mono e3)) nna_nil))) (by simp)) fun v H4 e4 rv => k v H4 (e3.trans e4) (by rw [show ofT blOf1 (.tup [.str "try", u0, u1, u2, u3]) = [u0, u2, u3] by kernel_rfl]; exact rv)
    have w3 : ¬ wd = "try" := of_decide_eq_false hb3
    have e3 := e2.trans e3
    have hT3 := ex_t e3 hT
    refine q_when (b := decide (wd = "def")) (et_test (ev_op (ev_ixT (i := 0) (ev_var rfl) hT3 rfl) ev_c rv_sEq)) (fun hb4 H4 e4 => ?_) (fun hb4 H4 e4 => ?_)
    · have hw := of_decide_eq_true hb4
      subst hw
      have e4 := e3.trans e4
      have hl2 : l = (["name", "parameters", "block"] : List Str) := (Option.some.inj ((lookS (by decide +kernel)).symm.trans hl)).symm
      subst hl2
      obtain ⟨u0, u1, u2, rfl⟩ := len3 hlen
      cases rs with
      | cons r0 rs =>
      cases rs with
      | cons r1 rs =>
      cases rs with
      | cons r2 rs =>
      cases rs
      exact nn_ret (t := .lst [u2]) (nn_lst (dm.trans (Dm.of e4)) (nna_cons (nn_ev (ev_ixT (i := 3) (ev_var rfl) (ex_t e4 hT) rfl) (r2.mono e4)) nna_nil) (by simp)) fun v H5 e5 rv => k v H5 (e4.trans e5) (by rw [show ofT blOf1 (.tup [.str "def", u0, u1, u2]) = [u2] by kernel_rfl]; exact rv)
    have w4 : ¬ wd = "def" := of_decide_eq_false hb4
    have e4 := e3.trans e4
    have hT4 := ex_t e4 hT
    refine q_when (b := decide (wd = "class")) (et_test (ev_op (ev_ixT (i := 0) (ev_var rfl) hT4 rfl) ev_c rv_sEq)) (fun hb5 H5 e5 => ?_) (fun hb5 H5 e5 => ?_)
    · have hw := of_decide_eq_true hb5
      subst hw
      have e5 := e4.trans e5
      have hl2 : l = (["name", "perhaps an expression", "methods"] : List Str) := (Option.some.inj ((lookS (by decide +kernel)).symm.trans hl)).symm
      subst hl2
      obtain ⟨u0, u1, u2, rfl⟩ := len3 hlen
      cases rs with
      | cons r0 rs =>
      cases rs with
      | cons r1 rs =>
      cases rs with
      | cons r2 rs =>
      cases rs
      have hm := part_methods (hp 2 "methods" u2 rfl rfl)
      cases r2 with
      | lst hM0 hM rM =>
        rename_i am vm ms
        have hbl : ofT blOf1 (.tup [.str "class", u0, u1, .lst ms]) = ms.map thirdT := by
          show ([] ++ ([] ++ (ms.map thirdT ++ []))) = _
          rw [List.append_nil]
          rfl
        rw [hbl] at k
        obtain ⟨m1, m2⟩ := Bool.and_eq_true_iff.mp (show (decide (ms.length ≤ 4) && (ms.all methodB && decide (dc (ms.map headOf) = ms.length))) = true from hm)
        have hml := rM.length
        have h4 : ms.length ≤ 4 := of_decide_eq_true m1
        have hmb := List.all_eq_true.mp (Bool.and_eq_true_iff.mp m2).1
        obtain ⟨ys, y1, y2, y3⟩ := third_items rM hmb
        have hel : EvL (tLc (iList K (tOp (rIxT K) (tVar 0) (tC (.int ((3 : Nat) : Int))))) (gName 1) tYes (tOp (rIxT K) (tVar 1) (tC (.int ((2 : Nat) : Int)))) [1]) (start N__law_inner [.ref a]) H5 ys := el_compL (ev_ixT (i := 3) (ev_var rfl) (ex_t e5 hT) rfl) (sq_of (e5 _ _ hM)) y1 (by omega) (fun x => rfl) fun i x y H6 e6 hx hy => by
          obtain ⟨p, c0, c1, rfl, q2⟩ := y3 i x y hx hy
          exact ev_ixT (i := 2) (ev_var rfl) (ex_t (e5.trans e6) q2) rfl
        refine s_retL hel fun p H6 hp6 e6 h6 => k _ H6 (e5.trans e6) (.lst (dm p (fresh_back e5 hp6)) h6 (y2.mono (e5.trans e6)))
      | _ => cases hm
    have w5 : ¬ wd = "class" := of_decide_eq_false hb5
    have e5 := e4.trans e5
    refine nn_ret (K := K) (t := .lst []) (nn_lst (dm.trans (Dm.of e5)) nna_nil (by simp)) fun v H6 e6 rv => k v H6 (e5.trans e6) ?_
    rw [bl_none hl ⟨w1, w2, w3, w4, w5⟩]
    exact rv
end
end K0
/-! ## K6A -/
set_option Elab.async false
set_option linter.all false
set_option maxRecDepth 100000
set_option maxHeartbeats 8000000
namespace K0
open PySem PySem.Spec PyProof.Rows L2 Evl RZ KB
section
variable {P : Program} {w : World} {K : PySem.W.Frag} {mg : Str → Option Value} {base : Heap} {σ : L2.St} {H H' H0 : Hp} {ta tb tc td te tl tv tk ti to : TE} {tr : TA} {x y kv v : V} {X0 : XK} {t u : TT} {tu tz : TS} {D : Ends} {g : TG} {R : V → Hp → Prop} {s : Addr} {sc sc' : Sc}
/-- a drawn program: the block and the source -/
def SpTopL (K : PySem.W.Frag) : Sp := fun vs H Q _ => ∃ b, ∃ cs : List Int, ∃ n : Int, ∃ m : Nat, vs = [.ref b, .int n, .int ((m : Nat) : Int)] ∧ SqL K H b (cs.map V.int) ∧ cs.length ≤ 1000 ∧ 1 ≤ m ∧ m ≤ 1000 ∧ ∀ T p s a k ts Hb H', SqT K H' T [.ref p, .ref s] → Hb s ≠ none → Dm Hb H' → RepN K Hb H' (.ref p) (.lst ts) → BlkOk 8 "top" false ts → k + cntL 8 ts ≤ m → ts ≠ [] → SrcAt H' s ⟨a, .int ((k : Nat) : Int)⟩ → Ex H H' → Q (.ref T) H'
theorem er_srcM {E : XK} {b : Addr} {cs : List Int} {n m : Int} (h : Ev ta σ H (.ref b)) (h2 : Ev tb σ H (.int n)) (h3 : Ev tc σ H (.int m)) (hb : SqL K H b (cs.map V.int)) (hc : cs.length ≤ 1000) : EvR (tCall (SpSrc K) [] E (tCons ta (tCons tb (tCons tc tNil)))) σ H (fun v H' => ∃ s a, v = .ref s ∧ H s = none ∧ SrcAt H' s ⟨a, .int m⟩) := fun H1 e Q q =>
  ea_cons h (ea_cons h2 (ea_cons h3 ea_nil)) H1 e _ fun H2 e2 => ⟨b, cs, n, m, rfl, ex_l (e.trans e2) hb, hc, fun s sc H3 hs e3 S hm => q _ H3 (e2.trans e3) ⟨s, sc.a, rfl, fresh_back (e.trans e2) hs, by
    obtain ⟨a, mm⟩ := sc
    cases hm
    exact S⟩⟩
theorem x_add1 {E : XK} {m : Nat} {c : Nat} (ha : Ev ta σ H (.ref s)) (hb : Ev tb σ H (.int ((m : Nat) : Int))) (S : SrcAt H s sc) (m0 : 0 < m) (m1 : m < 1000000) : EvX (tOp (rI0 fun i j => .int (i + j)) (tC (.int ((c : Nat) : Int))) (tCall (SpDraw K) [] E (tCons ta (tCons tb tNil)))) σ H (fun v H' => ∃ n : Nat, v = .int ((n : Nat) : Int) ∧ c ≤ n ∧ n ≤ c + (m - 1) ∧ Dr s sc H H') := fun Q q => x_draw' (K := K) ha hb S m0 m1 _ fun v H2 ⟨n, hv, hn, d⟩ => ⟨((c : Nat) : Int), ((n : Nat) : Int), rfl, hv, q _ H2 ⟨c + n, by congr 1, by omega, by omega, d⟩⟩
/-- item 6 := .. -/
theorem q_set6 {a : Addr} {mv : V} {m : Nat} (S : SrcAt H s ⟨a, mv⟩) (h : EvX te σ H (fun v H' => ∃ n : Nat, v = .int ((n : Nat) : Int) ∧ n ≤ m ∧ 1 ≤ n ∧ Dr s ⟨a, mv⟩ H H')) (ha : ∀ H1, Ev ta σ H1 (.ref s)) (kk : ∀ n H1, n ≤ m → 1 ≤ n → Dr s ⟨a, .int ((n : Nat) : Int)⟩ H H1 → tz D σ H1) :
    tSeq (tAsg te (gSub ta (tC (.int 6)) rSetL)) tz D σ H := h _ fun v H1 ⟨n, hv, hn, h1n, d⟩ => by
  subst hv
  obtain ⟨cs, i, c, st, no, no2, ma, h1, h2, h3, hm⟩ := d.2
  refine s_setL (te := tC (.int ((n : Nat) : Int))) (D := { D with nx := tz D }) (j := 6) h1 ev_c (ha H1) ev_c (by simp) fun H2 e2 => kk n _ hn h1n ⟨(d.1.trans (ExO.of e2)).upd, ?_⟩
  exact ⟨cs, i, c, st, no, no2, _, upd_same, by rw [upd_ne (src_ne h1 h2)]; exact e2 _ _ h2, h3, rfl⟩
theorem f_top (z : Cz w K mg) : Cl P w K mg base 37 "_law_top" (SpTopL K) := by
  have c__law_source := f_source (P := P) (base := base) z
  have c__law_draw := f_draw (P := P) (base := base) z
  have c__law_statement := (f_gen (P := P) (base := base) z 8).2
  refine cal_of (k := 36) z.fn__law_top z.glo__law_top K0.c__law_top (fun vs H Q E h => ?_) (fun cdv A outer s0 H vs Q _ hr h => ?_)
  · obtain ⟨b, cs, n, m, rfl, _⟩ := h
    rfl
  · obtain ⟨b, cs, n, m, rfl, hb, hc, m1, m2, k⟩ := h
    refine ⟨_, (pss_cons (ps_set (i := 3) K0.c__law_top.nd rfl (.inl rfl) (pe_c c__law_source hr (by first | decide | omega) (by rfl) (pa_cons (pv 0) (pa_cons (pv 1) (pa_cons (pv 2) pa_nil)))))
      (pss_cons (ps_asg (pe_ix (show IxR _ (rIxL K) from ix_list) (pe_lst (pa_cons (pv 2) (pa_cons (pe_op op_add pe_int (pe_c c__law_draw hr (by first | decide | omega) (by rfl) (pa_cons (pv 3) (pa_cons (pv 2) pa_nil)))) pa_nil))) (pe_c c__law_draw hr (by first | decide | omega) (by rfl) (pa_cons (pv 3) (pa_cons pe_int pa_nil))) (fun _ _ => rfl)) (pg_sub (pv 3) pe_int set_list))
      (pss_cons (ps_set (i := 4) K0.c__law_top.nd rfl (.inl rfl) (pe_lst pa_nil))
      (pss_cons (ps_for PassesOwn.never rfl (pi_range1 (by rfl) z.free_range (pa_cons (pe_op op_add pe_int (pe_c c__law_draw hr (by first | decide | omega) (by rfl) (pa_cons (pv 3) (pa_cons pe_int pa_nil)))) pa_nil)) (pg_name (i := 5) K0.c__law_top.nd rfl (.inl rfl)) (pss_one (ps_if (pt_cmpR op_gt (pe_ix (show IxR _ (rIxL K) from ix_list) (pv 3) pe_int (fun _ _ => rfl)) pe_int (nomark _)) (pss_cons (ps_asg (pe_op op_sub (pe_ix (show IxR _ (rIxL K) from ix_list) (pv 3) pe_int (fun _ _ => rfl)) pe_int) (pg_sub (pv 3) pe_int set_list))
      (pss_one (ps_expr (pe_bm PySem.F.plainAttrs_list PySem.F.slot_list_append PySem.F.type_list_append mt_append (pv 4) (pa_cons (pe_c c__law_statement hr (by first | decide | omega) (by rfl) (pa_cons (pv 3) (pa_cons pe_int (pa_cons pe_str (pa_cons pe_bl pa_nil))))) pa_nil))))) pss_nil)))
      (pss_one (ps_ret (pe_tup (pa_cons (pv 4) (pa_cons (pv 3) pa_nil))))))))), ?_⟩
    refine q_rasg (er_srcM (ev_var rfl) (ev_var rfl) (ev_var rfl) hb hc) fun v H1 e1 ⟨s, a, hv, hs0, S1⟩ => ?_
    subst hv
    have n0 := S1.some
    have dm : Dm H1 H1 := fun _ h => h
    refine q_set6 (m := m) S1 (EvX.imp (dx_pick (K := K) (H0 := H1) (m := 2) (G := fun t => ∃ n : Nat, (n ≤ m ∧ 1 ≤ n) ∧ t = .int ((n : Nat) : Int)) dm n0 (dan_cons n0 (dx_ev (t := .int ((m : Nat) : Int)) (ev_var rfl) (.int _) ⟨m, ⟨Nat.le_refl _, m1⟩, rfl⟩ S1) fun H2 d2 => dan_cons n0 ((x_add1 (K := K) (m := m) (c := 1) (ev_var rfl) (ev_var rfl) d2.2 (by omega) (by omega)).imp fun v H3 ⟨n, hv, h1, h2, d⟩ => ⟨.int ((n : Nat) : Int), by rw [hv]; exact .int _, ⟨n, ⟨by omega, h1⟩, rfl⟩, d⟩) fun H3 d3 => dan_nil d3.2) (fun H1 => ev_var rfl) (by decide) (by decide)) fun v H2 ⟨t, rt, ⟨n, hn, ht⟩, d⟩ => by
      subst ht
      cases rt
      exact ⟨n, rfl, hn.1, hn.2, d⟩) (fun H1 => ev_var rfl) fun k0 H2 hk0 hk1 d2 => ?_
    have S2 := d2.2
    refine q_asgL (el_lst ea_nil (by simp)) fun p H3 hp e3 h3 => ?_
    have S3 := S2.mono e3
    obtain ⟨np, npc⟩ := src_fresh S2 hp
    have n0s : H3 s ≠ none := S3.some
    have n0p : H3 p ≠ none := by
      rw [h3]
      exact fun q => nomatch q
    refine q_forX (R := fun n H' => 1 ≤ n ∧ n ≤ 12 ∧ Dr s ⟨a, .int ((k0 : Nat) : Int)⟩ H3 H') ((x_add1 (K := K) (m := 12) (c := 1) (ev_var rfl) ev_c S3 (by decide) (by decide)).imp fun v H4 ⟨n, hv, h1, h2, d⟩ => ⟨n, hv, by omega, h1, by omega, d⟩) fun n H4 ⟨hn1, hn2, d4⟩ => ⟨fun i σ' H' => ∃ q5 k' vs ts, σ' = [some (.ref b), some (.int _), some (.int ((m : Nat) : Int)), some (.ref s), some (.ref p), q5] ∧ Left H' s a k' H2 ∧ Dm H3 H' ∧ H' p = some (.lst vs) ∧ RepsN K H3 H' vs ts ∧ ts.length ≤ i ∧ (∀ t ∈ ts, OkS 8 "top" false t) ∧ k' + cntL 8 ts = k0 ∧ (0 < i → ts ≠ []), ⟨_, k0, [], [], rfl, (Dr.of S2 e3).nxt d4, d4.dm, d4.at h3 np, .nil, Nat.le_refl _, fun t ht => (List.not_mem_nil ht).elim, rfl, fun h => by omega⟩, fun i σ' H' hi hP => ?_, fun σ' H' hP => ?_⟩
    · obtain ⟨q6, k', vs, ts, rfl, dl, pd, p3, p4, p5, p6, p7, p8⟩ := hP
      have hne : 0 < k' ∨ ts ≠ [] := by
        by_cases h : ts = []
        · subst h
          have : cntL 8 [] = 0 := rfl
          left
          omega
        · exact .inr h
      refine s_when (b := decide (((k' : Nat) : Int) > 0)) (et_test (ev_op (ev_left (ev_var rfl) dl.2) ev_c rv_I0)) (fun hb H5 e5 => ?_) (fun hb H5 e5 => ⟨_, k', vs, ts, rfl, dl.nxt (Dr.of dl.2 e5), pd.trans (Dm.of e5), e5 _ _ p3, p4.mono e5, by omega, p6, p7, fun _ => hne.resolve_left (by have := of_decide_eq_false hb; omega)⟩)
      have hk1 : 0 < k' := by
        have := of_decide_eq_true hb
        omega
      obtain ⟨k2, rfl⟩ : ∃ k2, k' = k2 + 1 := ⟨k' - 1, by omega⟩
      have S5 := dl.2.mono e5
      refine q_less (fun H1 e => ev_var rfl) S5 fun H6 d6 => ?_
      have h6 : H6 p = some (.lst vs) := d6.1 p _ np (e5 _ _ p3)
      have r6 := (p4.mono e5).xo n0s S5 d6
      have pd6 := (pd.trans (Dm.of e5)).trans d6.dm
      have dl6 := (dl.nxt (Dr.of dl.2 e5)).nxt d6
      refine s_appX (l := p) (xs := vs) (R := fun v H' => ∃ t k3, RepN K H3 H' v t ∧ (OkS 8 "top" false t ∧ k3 + cntS 8 t = k2 + 1) ∧ Left H' s a k3 H6) h6 (ev_var rfl) (fun H7 e7 => EvX.imp (dxc_sta0 (g := 7) (r := "top") (l := false) (pd6.trans (Dm.of e7)) (dl6.2.mono e7) (ev_var rfl) ev_c ev_c ev_c) fun v H8 ⟨t, k3, rt, ft, d8⟩ => ⟨t, k3, rt, ft, (Dr.of dl6.2 e7).nxt d8⟩) (fun v H8 ⟨t, k3, rt, ft, d8⟩ => d8.1 p _ np h6) (by have := p4.length; omega) fun v H8 ⟨t, k3, rt, ⟨ok, hk3⟩, d8⟩ => ?_
      have h8 := d8.1 p _ np h6
      have dl8 := dl6.nxt d8
      refine ⟨_, k3, vs ++ [v], ts ++ [t], rfl, ⟨dl8.1.mut (fresh_back (Ex.refl _) hp), dl8.2.updD np npc⟩, dm_mut (pd6.trans d8.dm) (by rw [h8]; exact fun q => nomatch q), upd_same, RepsN.snoc ((r6.xo n0s dl6.2 d8).exo n0p h8 (ExO.upd (ExO.of (Ex.refl _)))) (rt.exo n0p h8 (ExO.upd (ExO.of (Ex.refl _)))), by rw [List.length_append]; show ts.length + 1 ≤ i + 1; omega, fun y hy => ?_, ?_, fun _ => by simp⟩
      · rcases List.mem_append.mp hy with hy | hy
        · exact p6 y hy
        · rw [List.mem_singleton.mp hy]
          exact ok
      · rw [cntL_app]
        have : cntL 8 [t] = cntS 8 t := by
          unfold cntL
          simp
        omega
    · obtain ⟨q6, k', vs, ts, rfl, dl, pd, p3, p4, p5, p6, p7, p8⟩ := hP
      have rp : RepN K H2 H' (.ref p) (.lst ts) := .lst hp p3 (p4.base (Dm.of e3))
      have dmb : Dm H2 H' := dl.dm
      refine s_retU (eu_tup (ea_cons (ev_var rfl) (ea_cons (ev_var rfl) ea_nil)) (by simp)) fun T H5 _ e5 h5 => k T p s a k' ts H2 H5 (st_of h5) S2.some (dmb.trans (Dm.of e5)) (rp.mono e5) ⟨by omega, p6⟩ (by omega) (p8 (by omega)) (dl.2.mono e5) (Ex.trans ?_ e5)
      -- what stood stands
      have x12 : ExO s H H' := ((ExO.of e1).trans d2.1).trans dl.1
      exact fun q u hq => x12 q u (fun zz => by rw [zz, hs0] at hq; cases hq) hq
end
end K0
/-! ## K6T -/
set_option Elab.async false
set_option linter.all false
set_option maxRecDepth 100000
set_option maxHeartbeats 8000000
namespace K0
open PySem PySem.Spec PyProof.Rows L2 Evl RZ KB
def pT (p : List Nat) : Th := .tup (p.map fun n => .int ((n : Nat) : Int))
def toldT : Option (List Nat) → Th
  | none => .tup [.str "good"]
  | some q => .tup [.str "fault", pT q]
section
variable {P : Program} {w : World} {K : PySem.W.Frag} {mg : Str → Option Value} {base : Heap} {σ : L2.St} {H H' H0 : Hp} {ta tb tc td te tl tv tk ti to : TE} {tr : TA} {x y kv v : V} {X0 : XK} {t u : TT} {tu tz : TS} {D : Ends} {g : TG} {R : V → Hp → Prop} {s : Addr} {sc sc' : Sc}
theorem reps_pV : ∀ (p : List Nat), Reps K H (pV p) (p.map fun n => Th.int ((n : Nat) : Int))
  | [] => .nil
  | _ :: p => .cons (.int _) (reps_pV p)
theorem rep_pT {q : Addr} {p : List Nat} (h : H q = some (.tup (pV p))) : Rep K H (.ref q) (pT p) := .tup (st_of h) (reps_pV p)
end
end K0
/-! ## K6B -/
set_option Elab.async false
set_option linter.all false
set_option maxRecDepth 100000
set_option maxHeartbeats 4000000
namespace K0
open PySem PySem.Spec PyProof.Rows L2 Evl RZ KB
/-! the first fault of a block in which all ahead of it is good -/
theorem okRow_of {g : Nat} {r : Str} {l : Bool} {t : Th} {p : List Nat} (h2 : stmtB t = true) (h3 : fitsB t (8 - ((g : Nat) : Int)) r l = true) : okRow ⟨p, t, 8 - ((g : Nat) : Int), r, l⟩ = true := by
  show (stmtB t && fitsB t (8 - ((g : Nat) : Int)) r l) = true
  rw [h2, h3]
  rfl
def sumB (g : Nat) (bs : List Th) : Nat := (bs.map fun b => cntL g (elems b)).sum
theorem blocks_pre {f : Nat} {r : Str} {l : Bool} {p : List Nat} : ∀ (pre post : List Th) (n many : Nat), (∀ b ∈ pre, ∃ us, b = .lst us ∧ us.length ≤ 12 ∧ ∀ u ∈ us, OkS (f + 1) r l u) → many + sumB (f + 1) pre ≤ 80 → blocksW (walkL f) p (8 - ((f : Nat) : Int)) r l n many (pre ++ post) = blocksW (walkL f) p (8 - ((f : Nat) : Int)) r l (n + pre.length) (many + sumB (f + 1) pre) post
  | [], post, n, many, _, _ => rfl
  | b :: pre, post, n, many, hb, hc => by
    obtain ⟨us, rfl, hu⟩ := hb b List.mem_cons_self
    have hsum : sumB (f + 1) (.lst us :: pre) = cntL (f + 1) us + sumB (f + 1) pre := rfl
    rw [hsum] at hc ⊢
    show (match walkL f (p ++ [n]) (8 - ((f : Nat) : Int)) r l many us with
      | (some q, m) => (some q, m)
      | (none, m) => blocksW (walkL f) p (8 - ((f : Nat) : Int)) r l (n + 1) m (pre ++ post)) = _
    rw [walk_good f (p ++ [n]) r l many us hu (by omega)]
    show blocksW (walkL f) p (8 - ((f : Nat) : Int)) r l (n + 1) (many + cntL (f + 1) us) (pre ++ post) = _
    rw [blocks_pre pre post (n + 1) _ (fun b h => hb b (List.mem_cons_of_mem _ h)) (by omega), List.length_cons, show n + 1 + pre.length = n + (pre.length + 1) by omega, Nat.add_assoc]
theorem inner_good {g : Nat} {r : Str} {l : Bool} {t : Th} {p : List Nat} {many : Nat} (ht : OkS (g + 1) r l t) (hc : many + cntS (g + 1) t ≤ 80) : innerW g p (8 - ((g : Nat) : Int) + 1) (inR (fw t) r) (inL (fw t) l) (many + 1) (ofT blOf1 t) = (none, many + cntS (g + 1) t) := by
  cases g with
  | zero =>
    have hb : ofT blOf1 t = [] := okRow_deep (p := []) (show (stmtB t && fitsB t 8 r l) = true by rw [ht.2.1, show fitsB t 8 r l = true from ht.2.2.1]; rfl)
    have h1 : cntS 1 t = 1 := by
      show 1 + _ = 1
      rw [hb]
      rfl
    rw [h1]
    rfl
  | succ f =>
    have h1 : cntS (f + 2) t = 1 + sumB (f + 1) (ofT blOf1 t) := rfl
    show blocksW (walkL f) p (8 - ((f + 1 : Nat) : Int) + 1) (inR (fw t) r) (inL (fw t) l) 0 (many + 1) (ofT blOf1 t) = _
    have := blocks_pre (f := f) (r := inR (fw t) r) (l := inL (fw t) l) (p := p) (ofT blOf1 t) [] 0 (many + 1) ht.2.2.2 (by rw [show f + 1 + 1 = f + 2 from rfl, h1] at hc; omega)
    rw [List.append_nil] at this
    rw [show 8 - ((f + 1 : Nat) : Int) + 1 = 8 - ((f : Nat) : Int) by omega, this]
    show (none, _) = _
    rw [h1, Nat.add_assoc]
theorem steps_pre {g : Nat} {r : Str} {l : Bool} {p : List Nat} : ∀ (pre post : List Th) (k many : Nat), k + pre.length ≤ 12 → (∀ t ∈ pre, OkS (g + 1) r l t) → many + cntL (g + 1) pre ≤ 80 → stepL (innerW g) p (8 - ((g : Nat) : Int)) r l k many (pre ++ post) = stepL (innerW g) p (8 - ((g : Nat) : Int)) r l (k + pre.length) (many + cntL (g + 1) pre) post
  | [], post, k, many, _, _, _ => rfl
  | t :: pre, post, k, many, hk, hts, hc => by
    have ht := hts t List.mem_cons_self
    have hcnt : cntL (g + 1) (t :: pre) = cntS (g + 1) t + cntL (g + 1) pre := rfl
    have h0 : 1 ≤ cntS (g + 1) t := Nat.le_add_right _ _
    rw [List.length_cons] at hk
    show (if _ then _ else if _ then _ else _) = _
    rw [if_neg (by rw [decide_eq_false (by omega), decide_eq_false (by omega)]; decide), if_pos (okRow_of ht.2.1 ht.2.2.1)]
    rw [inner_good ht (by omega)]
    show stepL (innerW g) p _ r l (k + 1) (many + cntS (g + 1) t) (pre ++ post) = _
    rw [steps_pre pre post (k + 1) _ (by omega) (fun u hu => hts u (List.mem_cons_of_mem _ hu)) (by omega), hcnt, List.length_cons, show k + 1 + pre.length = k + (pre.length + 1) by omega, Nat.add_assoc]
/-- a path to a statement with Z, all ahead of it good; so many statements are ahead of it -/
def PathTo (Z : Nat → Str → Bool → Th → Prop) : Nat → Str → Bool → List Nat → List Th → Nat → Prop
  | 0, _, _, _, _, _ => False
  | _ + 1, _, _, [], _, _ => False
  | g + 1, r, l, [k], ts, c => k ≤ 11 ∧ (∀ u ∈ ts.take k, OkS (g + 1) r l u) ∧ ∃ t, ts[k]? = some t ∧ Z g r l t ∧ c = cntL (g + 1) (ts.take k)
  | g + 1, r, l, k :: n :: rest, ts, c => k ≤ 11 ∧ (∀ u ∈ ts.take k, OkS (g + 1) r l u) ∧ ∃ t us c', ts[k]? = some t ∧ stmtB t = true ∧ fitsB t (8 - ((g : Nat) : Int)) r l = true ∧ (ofT blOf1 t)[n]? = some (.lst us) ∧
      (∀ b ∈ (ofT blOf1 t).take n, ∃ vs, b = .lst vs ∧ vs.length ≤ 12 ∧ ∀ u ∈ vs, OkS g (inR (fw t) r) (inL (fw t) l) u) ∧ PathTo Z g (inR (fw t) r) (inL (fw t) l) rest us c' ∧ c = cntL (g + 1) (ts.take k) + 1 + sumB g ((ofT blOf1 t).take n) + c'
def BadS (g : Nat) (r : Str) (l : Bool) (t : Th) : Prop := ∀ p, okRow ⟨p, t, 8 - ((g : Nat) : Int), r, l⟩ = false
theorem split_at {ts : List Th} {k : Nat} {t : Th} (h : ts[k]? = some t) : ts = ts.take k ++ t :: ts.drop (k + 1) ∧ (ts.take k).length = k := by
  obtain ⟨h1, h2⟩ := List.getElem?_eq_some_iff.mp h
  refine ⟨?_, by rw [List.length_take]; omega⟩
  have h3 : ts.drop k = t :: ts.drop (k + 1) := by
    rw [List.drop_eq_getElem_cons h1, h2]
  rw [← h3, List.take_append_drop]
theorem walk_bad : ∀ (g : Nat) (r : Str) (l : Bool) (path : List Nat) (ts : List Th) (c : Nat) (p : List Nat) (many : Nat), PathTo BadS (g + 1) r l path ts c → many + c ≤ 79 → walkL g p (8 - ((g : Nat) : Int)) r l many ts = (some (p ++ path), many + c)
  | _, _, _, [], _, _, _, _, h, _ => h.elim
  | g, r, l, [k], ts, c, p, many, h, hc => by
    obtain ⟨hk, hpre, t, ht, hbad, rfl⟩ := h
    obtain ⟨e, hl⟩ := split_at ht
    rw [walkL_eq, e, steps_pre _ _ 0 many (by omega) hpre (by omega), hl, Nat.zero_add, ← e]
    show (if _ then _ else if _ then _ else _) = _
    rw [if_neg (by rw [decide_eq_false (by omega), decide_eq_false (by omega)]; decide), if_neg (by rw [hbad]; decide)]
  | 0, r, l, k :: n :: rest, ts, c, p, many, h, hc => by
    obtain ⟨hk, hpre, t, us, c', ht, hs, hf, hb, hbl, hr, rfl⟩ := h
    exact hr.elim
  | g + 1, r, l, k :: n :: rest, ts, c, p, many, h, hc => by
    obtain ⟨hk, hpre, t, us, c', ht, hs, hf, hb, hbl, hr, rfl⟩ := h
    rw [show g + 1 + 1 = g + 2 from rfl] at hpre hc ⊢
    have hC : cntL (g + 1 + 1) (ts.take k) = cntL (g + 2) (ts.take k) := rfl
    obtain ⟨e, hl⟩ := split_at ht
    obtain ⟨e2, hl2⟩ := split_at hb
    have ih := walk_bad g (inR (fw t) r) (inL (fw t) l) rest us c' ((p ++ [k]) ++ [n]) (many + cntL (g + 2) (ts.take k) + 1 + sumB (g + 1) ((ofT blOf1 t).take n)) hr (by omega)
    rw [walkL_eq, e, steps_pre (g := g + 1) _ _ 0 many (by omega) hpre (by rw [hC]; omega), hl, Nat.zero_add, ← e, hC]
    show (if _ then _ else if _ then _ else _) = _
    rw [if_neg (by rw [decide_eq_false (by omega), decide_eq_false (by omega)]; decide), if_pos (okRow_of hs hf)]
    have hin : innerW (g + 1) (p ++ [k]) (8 - ((g + 1 : Nat) : Int) + 1) (inR (fw t) r) (inL (fw t) l) (many + cntL (g + 2) (ts.take k) + 1) (ofT blOf1 t) = (some (p ++ k :: n :: rest), many + (cntL (g + 2) (ts.take k) + 1 + sumB (g + 1) ((ofT blOf1 t).take n) + c')) := by
      show blocksW (walkL g) (p ++ [k]) (8 - ((g + 1 : Nat) : Int) + 1) (inR (fw t) r) (inL (fw t) l) 0 (many + cntL (g + 2) (ts.take k) + 1) (ofT blOf1 t) = _
      rw [show 8 - ((g + 1 : Nat) : Int) + 1 = 8 - ((g : Nat) : Int) by omega, e2, blocks_pre _ _ 0 _ hbl (by omega), hl2, Nat.zero_add, ← e2]
      show (match walkL g ((p ++ [k]) ++ [n]) (8 - ((g : Nat) : Int)) (inR (fw t) r) (inL (fw t) l) (many + cntL (g + 2) (ts.take k) + 1 + sumB (g + 1) ((ofT blOf1 t).take n)) us with
        | (some q, m) => (some q, m)
        | (none, m) => blocksW (walkL g) (p ++ [k]) (8 - ((g : Nat) : Int)) (inR (fw t) r) (inL (fw t) l) (n + 1) m ((ofT blOf1 t).drop (n + 1))) = _
      rw [ih]
      show (some (((p ++ [k]) ++ [n]) ++ rest), _) = _
      rw [show ((p ++ [k]) ++ [n]) ++ rest = p ++ k :: n :: rest by simp]
      congr 1
      omega
    rw [hin]
theorem prog_bad {path : List Nat} {ts : List Th} {c : Nat} (hl : ts.length ≤ 12) (h : PathTo BadS 8 "top" false path ts c) (hc : c ≤ 79) : progM (.lst ts) = some path := by
  show (if ts.length ≤ 12 then (surveyT ts).2 else some []) = some path
  rw [if_pos hl, (survey_walk ts).1]
  have := walk_bad 7 "top" false path ts c [] 0 h (by omega)
  rw [show walkL 7 [] 1 "top" false 0 ts = _ from this]
  rfl
end K0
/-! ## K6C -/
set_option Elab.async false
set_option linter.all false
set_option maxRecDepth 100000
set_option maxHeartbeats 4000000
namespace K0
open PySem PySem.Spec PyProof.Rows L2 Evl RZ KB
/-! a statement with one of its blocks replaced -/
inductive WB : Th → Nat → List Th → List Th → Th → Prop
  | if0 (e c : Th) (us vs : List Th) : WB (.tup [.str "if", e, .lst us, c]) 0 us vs (.tup [.str "if", e, .lst vs, c])
  | if1 (e a : Th) (us vs : List Th) : WB (.tup [.str "if", e, a, .lst us]) 1 us vs (.tup [.str "if", e, a, .lst vs])
  | wh (e : Th) (us vs : List Th) : WB (.tup [.str "while", e, .lst us]) 0 us vs (.tup [.str "while", e, .lst vs])
  | df (z ps : Th) (us vs : List Th) : WB (.tup [.str "def", z, ps, .lst us]) 0 us vs (.tup [.str "def", z, ps, .lst vs])
  | try0 (z b c : Th) (us vs : List Th) : WB (.tup [.str "try", .lst us, z, b, c]) 0 us vs (.tup [.str "try", .lst vs, z, b, c])
  | try1 (a z c : Th) (us vs : List Th) : WB (.tup [.str "try", a, z, .lst us, c]) 1 us vs (.tup [.str "try", a, z, .lst vs, c])
  | try2 (a z b : Th) (us vs : List Th) : WB (.tup [.str "try", a, z, b, .lst us]) 2 us vs (.tup [.str "try", a, z, b, .lst vs])
  | cls (z ab mz mp : Th) (m1 m2 : List Th) (us vs : List Th) : WB (.tup [.str "class", z, ab, .lst (m1 ++ .tup [mz, mp, .lst us] :: m2)]) m1.length us vs (.tup [.str "class", z, ab, .lst (m1 ++ .tup [mz, mp, .lst vs] :: m2)])
theorem bl_class (z ab : Th) (ms : List Th) : ofT blOf1 (.tup [.str "class", z, ab, .lst ms]) = ms.map thirdT := by
  show ([] ++ ([] ++ (ms.map thirdT ++ []))) = _
  rw [List.append_nil]
  rfl
theorem WB.fw {t t' : Th} {n : Nat} {us vs : List Th} (h : WB t n us vs t') : fw t' = fw t := by
  cases h <;> rfl
theorem WB.bl {t t' : Th} {n : Nat} {us vs : List Th} (h : WB t n us vs t') : ofT blOf1 t' = (ofT blOf1 t).set n (.lst vs) ∧ (ofT blOf1 t)[n]? = some (.lst us) := by
  cases h with
  | if0 e c => exact ⟨by rw [show ofT blOf1 (.tup [.str "if", e, .lst vs, c]) = [.lst vs, c] by kernel_rfl, show ofT blOf1 (.tup [.str "if", e, .lst us, c]) = [.lst us, c] by kernel_rfl]; rfl, by rw [show ofT blOf1 (.tup [.str "if", e, .lst us, c]) = [.lst us, c] by kernel_rfl]; rfl⟩
  | if1 e a => exact ⟨by rw [show ofT blOf1 (.tup [.str "if", e, a, .lst vs]) = [a, .lst vs] by kernel_rfl, show ofT blOf1 (.tup [.str "if", e, a, .lst us]) = [a, .lst us] by kernel_rfl]; rfl, by rw [show ofT blOf1 (.tup [.str "if", e, a, .lst us]) = [a, .lst us] by kernel_rfl]; rfl⟩
  | wh e => exact ⟨by rw [show ofT blOf1 (.tup [.str "while", e, .lst vs]) = [.lst vs] by kernel_rfl, show ofT blOf1 (.tup [.str "while", e, .lst us]) = [.lst us] by kernel_rfl]; rfl, by rw [show ofT blOf1 (.tup [.str "while", e, .lst us]) = [.lst us] by kernel_rfl]; rfl⟩
  | df z ps => exact ⟨by rw [show ofT blOf1 (.tup [.str "def", z, ps, .lst vs]) = [.lst vs] by kernel_rfl, show ofT blOf1 (.tup [.str "def", z, ps, .lst us]) = [.lst us] by kernel_rfl]; rfl, by rw [show ofT blOf1 (.tup [.str "def", z, ps, .lst us]) = [.lst us] by kernel_rfl]; rfl⟩
  | try0 z b c => exact ⟨by rw [show ofT blOf1 (.tup [.str "try", .lst vs, z, b, c]) = [.lst vs, b, c] by kernel_rfl, show ofT blOf1 (.tup [.str "try", .lst us, z, b, c]) = [.lst us, b, c] by kernel_rfl]; rfl, by rw [show ofT blOf1 (.tup [.str "try", .lst us, z, b, c]) = [.lst us, b, c] by kernel_rfl]; rfl⟩
  | try1 a z c => exact ⟨by rw [show ofT blOf1 (.tup [.str "try", a, z, .lst vs, c]) = [a, .lst vs, c] by kernel_rfl, show ofT blOf1 (.tup [.str "try", a, z, .lst us, c]) = [a, .lst us, c] by kernel_rfl]; rfl, by rw [show ofT blOf1 (.tup [.str "try", a, z, .lst us, c]) = [a, .lst us, c] by kernel_rfl]; rfl⟩
  | try2 a z b => exact ⟨by rw [show ofT blOf1 (.tup [.str "try", a, z, b, .lst vs]) = [a, b, .lst vs] by kernel_rfl, show ofT blOf1 (.tup [.str "try", a, z, b, .lst us]) = [a, b, .lst us] by kernel_rfl]; rfl, by rw [show ofT blOf1 (.tup [.str "try", a, z, b, .lst us]) = [a, b, .lst us] by kernel_rfl]; rfl⟩
  | cls z ab mz mp m1 m2 =>
    rw [bl_class, bl_class, List.map_append, List.map_append]
    have hl : m1.length = (m1.map thirdT).length := (List.length_map ..).symm
    refine ⟨?_, ?_⟩
    · rw [hl, List.set_append_right _ _ (Nat.le_refl _), Nat.sub_self]
      rfl
    · rw [hl, List.getElem?_append_right (Nat.le_refl _), Nat.sub_self]
      rfl
theorem WB.ex {t t' : Th} {n : Nat} {us vs : List Th} (h : WB t n us vs t') : ofT exOf1 t' = ofT exOf1 t := by
  cases h <;> kernel_rfl
theorem st_try (a z b c : Th) : stmtB (.tup [.str "try", a, z, b, c]) = (((isLst a && (partB (exprB 5) "perhaps a name" z && (isLst b && (isLst c && true))))) && (!isNonT z || (decide (lenT b = 0) && decide (0 < lenT c)))) := by kernel_rfl
theorem meth_app (m1 m2 : List Th) (mz mp : Th) (us vs : List Th) : partB (exprB 5) "methods" (.lst (m1 ++ .tup [mz, mp, .lst vs] :: m2)) = partB (exprB 5) "methods" (.lst (m1 ++ .tup [mz, mp, .lst us] :: m2)) := by
  rw [p_meth, p_meth]
  show (decide ((m1 ++ .tup [mz, mp, .lst vs] :: m2).length ≤ 4) && ((m1 ++ .tup [mz, mp, .lst vs] :: m2).all methodB && decide (dc ((m1 ++ .tup [mz, mp, .lst vs] :: m2).map headOf) = (m1 ++ .tup [mz, mp, .lst vs] :: m2).length))) = (decide ((m1 ++ .tup [mz, mp, .lst us] :: m2).length ≤ 4) && ((m1 ++ .tup [mz, mp, .lst us] :: m2).all methodB && decide (dc ((m1 ++ .tup [mz, mp, .lst us] :: m2).map headOf) = (m1 ++ .tup [mz, mp, .lst us] :: m2).length)))
  have h1 : (m1 ++ .tup [mz, mp, .lst vs] :: m2).length = (m1 ++ .tup [mz, mp, .lst us] :: m2).length := by simp
  have h2 : (m1 ++ .tup [mz, mp, .lst vs] :: m2).all methodB = (m1 ++ .tup [mz, mp, .lst us] :: m2).all methodB := by
    rw [List.all_append, List.all_append, List.all_cons, List.all_cons]
    have : methodB (.tup [mz, mp, .lst vs]) = methodB (.tup [mz, mp, .lst us]) := by
      cases mp <;> rfl
    rw [this]
  have h3 : (m1 ++ .tup [mz, mp, .lst vs] :: m2).map headOf = (m1 ++ .tup [mz, mp, .lst us] :: m2).map headOf := by
    rw [List.map_append, List.map_append, List.map_cons, List.map_cons]
    have : headOf (.tup [mz, mp, .lst vs]) = headOf (.tup [mz, mp, .lst us]) := by
      cases mz <;> rfl
    rw [this]
  rw [h1, h2, h3]
theorem WB.st {t t' : Th} {n : Nat} {us vs : List Th} (h : WB t n us vs t') (hl : vs.length = us.length) : stmtB t' = stmtB t := by
  have hlen : lenT (.lst vs) = lenT (.lst us) := hl
  cases h with
  | if0 e c => kernel_rfl
  | if1 e a => kernel_rfl
  | wh e => kernel_rfl
  | df z ps => kernel_rfl
  | try0 z b c => rw [st_try, st_try]; rfl
  | try1 a z c => rw [st_try, st_try, hlen]; rfl
  | try2 a z b => rw [st_try, st_try, hlen]; rfl
  | cls z ab mz mp m1 m2 =>
    have e : ∀ ms : List Th, stmtB (.tup [.str "class", z, ab, .lst ms]) = ((partB (exprB 5) "name" z && (partB (exprB 5) "perhaps an expression" ab && (partB (exprB 5) "methods" (.lst ms) && true))) && true) := fun ms => by kernel_rfl
    rw [e, e, meth_app]
theorem WB.fits {t t' : Th} {n : Nat} {us vs : List Th} (h : WB t n us vs t') (d : Int) (r : Str) (l : Bool) : fitsB t' d r l = fitsB t d r l := by
  rw [fitsB_eq, fitsB_eq, h.fw, h.ex, h.bl.1, List.length_set]
  have : decide (K0.fw t = "call") = false := by
    cases h <;> (rw [fw_str]; decide +kernel)
  rw [this, Bool.false_and, Bool.false_and]
end K0
/-! ## K6D -/
set_option Elab.async false
set_option linter.all false
set_option maxRecDepth 100000
set_option maxHeartbeats 4000000
namespace K0
open PySem PySem.Spec PyProof.Rows L2 Evl RZ KB
/-! the put of a statement at a path -/
inductive PT (s : Th) : List Nat → List Th → List Th → Prop
  | here (k : Nat) (ts : List Th) (h : k < ts.length) : PT s [k] ts (ts.set k s)
  | deep (k n : Nat) (rest : List Nat) (ts us us' : List Th) (t t' : Th) : ts[k]? = some t → PT s rest us us' → WB t n us us' t' → PT s (k :: n :: rest) ts (ts.set k t')
theorem PT.len {s : Th} {path : List Nat} {ts ts' : List Th} (h : PT s path ts ts') : ts'.length = ts.length := by
  cases h <;> rw [List.length_set]
def lexLt : List Nat → List Nat → Prop
  | [], [] => False
  | [], _ :: _ => True
  | _ :: _, [] => False
  | a :: as, b :: bs => a < b ∨ (a = b ∧ lexLt as bs)
theorem lex_total : ∀ (p q : List Nat), p ≠ q → lexLt p q ∨ lexLt q p
  | [], [], h => absurd rfl h
  | [], _ :: _, _ => .inl trivial
  | _ :: _, [], _ => .inr trivial
  | a :: as, b :: bs, h => by
    rcases Nat.lt_trichotomy a b with hab | hab | hab
    · exact .inl (.inl hab)
    · subst hab
      rcases lex_total as bs (fun q => h (by rw [q])) with h2 | h2
      · exact .inl (.inr ⟨rfl, h2⟩)
      · exact .inr (.inr ⟨rfl, h2⟩)
    · exact .inr (.inl hab)
theorem take_set {α : Type} {ts : List α} {k : Nat} {t : α} : (ts.set k t).take k = ts.take k := by
  rw [List.take_set]
  exact List.set_eq_of_length_le (by rw [List.length_take]; omega)
theorem take_set_lt {α : Type} {ts : List α} {i k : Nat} {t : α} (h : i ≤ k) : (ts.set k t).take i = ts.take i := by
  rw [List.take_set]
  exact List.set_eq_of_length_le (by rw [List.length_take]; omega)
theorem get_set_ne {α : Type} {ts : List α} {i k : Nat} {t : α} (h : i ≠ k) : (ts.set k t)[i]? = ts[i]? := by
  rw [List.getElem?_set_ne (Ne.symm h)]
/-- where it is put, it stands -/
theorem put_bad {Z Z' : Nat → Str → Bool → Th → Prop} {s : Th} (hz : ∀ g r l t, Z g r l t → Z' g r l s) : ∀ (g : Nat) (r : Str) (l : Bool) (path : List Nat) (ts ts' : List Th) (c : Nat), PathTo Z g r l path ts c → PT s path ts ts' → PathTo Z' g r l path ts' c
  | 0, _, _, _, _, _, _, h, _ => h.elim
  | _ + 1, _, _, [], _, _, _, h, _ => h.elim
  | g + 1, r, l, [k], ts, ts', c, h, p => by
    obtain ⟨hk, hpre, t, ht, hzt, rfl⟩ := h
    cases p with
    | here _ _ hl => exact ⟨hk, by rw [take_set]; exact hpre, s, by rw [List.getElem?_set_self hl], hz _ _ _ _ hzt, by rw [take_set]⟩
  | g + 1, r, l, k :: n :: rest, ts, ts', c, h, p => by
    obtain ⟨hk, hpre, t, us, c', ht, hs, hf, hb, hbl, hr, rfl⟩ := h
    cases p with
    | deep _ _ _ _ us2 us' t2 t' ht2 hp hw =>
      rw [ht] at ht2
      cases ht2
      have e := hw.bl.2.symm.trans hb
      cases e
      have hlt := (List.getElem?_eq_some_iff.mp ht).1
      have ih := put_bad hz g _ _ rest us us' c' hr hp
      refine ⟨hk, by rw [take_set]; exact hpre, t', us', c', by rw [List.getElem?_set_self hlt], by rw [hw.st hp.len]; exact hs, by rw [hw.fits]; exact hf, by rw [hw.bl.1, List.getElem?_set_self (List.getElem?_eq_some_iff.mp hb).1], by rw [hw.bl.1, take_set, hw.fw]; exact hbl, by rw [hw.fw]; exact ih, by rw [take_set, hw.bl.1, take_set]⟩
/-- what is ahead stays -/
theorem put_keep {Z : Nat → Str → Bool → Th → Prop} {s : Th} (hz : ∀ g r l t n us us' t', Z g r l t → WB t n us us' t' → us'.length = us.length → Z g r l t') : ∀ (g : Nat) (r : Str) (l : Bool) (q path : List Nat) (ts ts' : List Th) (c : Nat), PathTo Z g r l q ts c → PT s path ts ts' → lexLt q path → PathTo Z g r l q ts' c
  | 0, _, _, _, _, _, _, _, h, _, _ => h.elim
  | _ + 1, _, _, [], _, _, _, _, h, _, _ => h.elim
  | g + 1, r, l, [i], path, ts, ts', c, h, p, hlt => by
    obtain ⟨hk, hpre, t, ht, hzt, rfl⟩ := h
    cases p with
    | here k _ hl =>
      have hik : i < k := by
        rcases hlt with h | ⟨_, h⟩
        · exact h
        · exact h.elim
      exact ⟨hk, by rw [take_set_lt (by omega)]; exact hpre, t, by rw [get_set_ne (by omega)]; exact ht, hzt, by rw [take_set_lt (by omega)]⟩
    | deep k n rest _ us us' t2 t' ht2 hp hw =>
      rcases hlt with h | ⟨h, _⟩
      · exact ⟨hk, by rw [take_set_lt (by omega)]; exact hpre, t, by rw [get_set_ne (by omega)]; exact ht, hzt, by rw [take_set_lt (by omega)]⟩
      · subst h
        rw [ht] at ht2
        cases ht2
        exact ⟨hk, by rw [take_set]; exact hpre, t', by rw [List.getElem?_set_self (List.getElem?_eq_some_iff.mp ht).1], hz _ _ _ _ _ _ _ _ hzt hw hp.len, by rw [take_set]⟩
  | g + 1, r, l, i :: m :: rest, path, ts, ts', c, h, p, hlt => by
    obtain ⟨hk, hpre, t, us, c', ht, hs, hf, hb, hbl, hr, rfl⟩ := h
    cases p with
    | here k _ hl =>
      have hik : i < k := by
        rcases hlt with h | ⟨_, h⟩
        · exact h
        · exact h.elim
      exact ⟨hk, by rw [take_set_lt (by omega)]; exact hpre, t, us, c', by rw [get_set_ne (by omega)]; exact ht, hs, hf, hb, hbl, hr, by rw [take_set_lt (by omega)]⟩
    | deep k n rest2 _ us2 us' t2 t' ht2 hp hw =>
      rcases hlt with h | ⟨h, h2⟩
      · exact ⟨hk, by rw [take_set_lt (by omega)]; exact hpre, t, us, c', by rw [get_set_ne (by omega)]; exact ht, hs, hf, hb, hbl, hr, by rw [take_set_lt (by omega)]⟩
      · subst h
        rw [ht] at ht2
        cases ht2
        have hi := (List.getElem?_eq_some_iff.mp ht).1
        rcases h2 with h2 | ⟨h2, h3⟩
        · exact ⟨hk, by rw [take_set]; exact hpre, t', us, c', by rw [List.getElem?_set_self hi], by rw [hw.st hp.len]; exact hs, by rw [hw.fits]; exact hf, by rw [hw.bl.1, get_set_ne (by omega)]; exact hb, by rw [hw.bl.1, take_set_lt (by omega), hw.fw]; exact hbl, by rw [hw.fw]; exact hr, by rw [take_set, hw.bl.1, take_set_lt (by omega)]⟩
        · subst h2
          have e := hw.bl.2.symm.trans hb
          cases e
          have ih := put_keep hz g _ _ rest rest2 us us' c' hr hp h3
          exact ⟨hk, by rw [take_set]; exact hpre, t', us', c', by rw [List.getElem?_set_self hi], by rw [hw.st hp.len]; exact hs, by rw [hw.fits]; exact hf, by rw [hw.bl.1, List.getElem?_set_self (List.getElem?_eq_some_iff.mp hb).1], by rw [hw.bl.1, take_set, hw.fw]; exact hbl, by rw [hw.fw]; exact ih, by rw [take_set, hw.bl.1, take_set]⟩
/-- what stands at the path has Z; the kind of the place -/
def kindT : List Nat → List Th → Str → Bool → Str × Bool
  | k :: n :: rest, ts, r, l => match ts[k]? with
    | some t => match (ofT blOf1 t)[n]? with
      | some b => kindT rest (elems b) (inR (fw t) r) (inL (fw t) l)
      | none => (r, l)
    | none => (r, l)
  | _, _, r, l => (r, l)
theorem path_kind {Z : Nat → Str → Bool → Th → Prop} : ∀ (g : Nat) (r : Str) (l : Bool) (path : List Nat) (ts : List Th) (c : Nat), PathTo Z g r l path ts c → PathTo (fun g r' l' t => Z g r' l' t ∧ (r', l') = kindT path ts r l) g r l path ts c
  | 0, _, _, _, _, _, h => h.elim
  | _ + 1, _, _, [], _, _, h => h.elim
  | g + 1, r, l, [k], ts, c, h => by
    obtain ⟨hk, hpre, t, ht, hzt, rfl⟩ := h
    exact ⟨hk, hpre, t, ht, ⟨hzt, rfl⟩, rfl⟩
  | g + 1, r, l, k :: n :: rest, ts, c, h => by
    obtain ⟨hk, hpre, t, us, c', ht, hs, hf, hb, hbl, hr, rfl⟩ := h
    have e : kindT (k :: n :: rest) ts r l = kindT rest us (inR (fw t) r) (inL (fw t) l) := by
      show (match ts[k]? with
        | some t => match (ofT blOf1 t)[n]? with
          | some b => kindT rest (elems b) (inR (fw t) r) (inL (fw t) l)
          | none => (r, l)
        | none => (r, l)) = _
      rw [ht]
      show (match (ofT blOf1 t)[n]? with
          | some b => kindT rest (elems b) (inR (fw t) r) (inL (fw t) l)
          | none => (r, l)) = _
      rw [hb]
      rfl
    rw [e]
    exact ⟨hk, hpre, t, us, c', ht, hs, hf, hb, hbl, path_kind g _ _ rest us c' hr, rfl⟩
theorem PathTo.imp {Z Z' : Nat → Str → Bool → Th → Prop} (hz : ∀ g r l t, Z g r l t → Z' g r l t) : ∀ (g : Nat) (r : Str) (l : Bool) (path : List Nat) (ts : List Th) (c : Nat), PathTo Z g r l path ts c → PathTo Z' g r l path ts c
  | 0, _, _, _, _, _, h => h.elim
  | _ + 1, _, _, [], _, _, h => h.elim
  | g + 1, r, l, [k], ts, c, h => by
    obtain ⟨hk, hpre, t, ht, hzt, rfl⟩ := h
    exact ⟨hk, hpre, t, ht, hz _ _ _ _ hzt, rfl⟩
  | g + 1, r, l, k :: n :: rest, ts, c, h => by
    obtain ⟨hk, hpre, t, us, c', ht, hs, hf, hb, hbl, hr, rfl⟩ := h
    exact ⟨hk, hpre, t, us, c', ht, hs, hf, hb, hbl, PathTo.imp hz g _ _ rest us c' hr, rfl⟩
end K0
/-! ## K6E -/
set_option Elab.async false
set_option linter.all false
set_option maxRecDepth 100000
set_option maxHeartbeats 4000000
namespace K0
open PySem PySem.Spec PyProof.Rows L2 Evl RZ KB
/-! how deep a statement is, and that it stays fit to be handed in -/
def stKinds : List Str := ["name", "expression", "phrase", "how", "perhaps a name", "arguments", "block", "parameters", "perhaps an expression", "methods"]
theorem tab_sk : (t_STATEMENTS.all fun p => p.2.all fun k => decide (k ∈ stKinds)) = true := by decide +kernel
theorem part_dpS {m : Nat} {k : Str} {u : Th} (hk : k ∈ stKinds) (h : partB (exprB 5) k u = true) (hb : ∀ b ∈ blOf1 k u, dpT b ≤ m) : dpT u ≤ max 17 (m + 2) := by
  have e15 := expr_dp 5
  have flat0 : (∀ ts, u ≠ .lst ts) → (∀ ts, u ≠ .tup ts) → dpT u ≤ max 17 (m + 2) := fun h1 h2 => by
    cases u with
    | lst ts => exact absurd rfl (h1 ts)
    | tup ts => exact absurd rfl (h2 ts)
    | _ => exact Nat.zero_le _
  have kx : ∀ k, k ∈ exprKinds → partB (exprB 5) k u = true → dpT u ≤ max 17 (m + 2) := fun k h1 h2 => Nat.le_trans (part_dp (n := 5) (d := 15) (fun t ht => by have := e15 t ht; omega) h1 h2) (by omega)
  simp only [stKinds, List.mem_cons, List.not_mem_nil, or_false] at hk
  rcases hk with rfl | rfl | rfl | rfl | rfl | rfl | rfl | rfl | rfl | rfl
  · exact kx _ (by decide +kernel) h
  · exact kx _ (by decide +kernel) h
  · exact kx _ (by decide +kernel) h
  · have h : isHowT u = true := h
    exact flat0 (fun ts q => by subst q; cases h) (fun ts q => by subst q; cases h)
  · rw [p_perh] at h
    exact flat0 (fun ts q => by subst q; cases h) (fun ts q => by subst q; cases h)
  · have h : exprsB (exprB 5) 3 u = true := h
    cases u with
    | lst ts =>
      have h2 := (Bool.and_eq_true_iff.mp (show (decide (ts.length ≤ 3) && ts.all (exprB 5)) = true from h)).2
      show dpL ts + 1 ≤ _
      have := dpL_le (n := 15) fun t ht => e15 t (List.all_eq_true.mp h2 t ht)
      omega
    | _ => cases h
  · have := hb u (by unfold blOf1; rw [if_pos rfl]; exact List.mem_singleton.mpr rfl)
    omega
  · rw [p_para] at h
    cases u with
    | lst ts =>
      have : dpL ts ≤ 0 := dpL_le fun t ht => by
        have h3 : (decide (ts.length ≤ 3) && (ts.all isNameT && decide (dc (ts.map strOf) = ts.length))) = true := h
        have h4 := List.all_eq_true.mp (Bool.and_eq_true_iff.mp (Bool.and_eq_true_iff.mp h3).2).1 t ht
        cases t <;> first | exact Nat.le_refl _ | cases h4
      show dpL ts + 1 ≤ _
      omega
    | _ => cases h
  · rw [p_pexp] at h
    rcases Bool.or_eq_true_iff.mp h with h | h
    · exact flat0 (fun ts q => by subst q; cases h) (fun ts q => by subst q; cases h)
    · have := e15 u h
      omega
  · rw [p_meth] at h
    cases u with
    | lst ms =>
      obtain ⟨h1, h2⟩ := Bool.and_eq_true_iff.mp (show (decide (ms.length ≤ 4) && (ms.all methodB && decide (dc (ms.map headOf) = ms.length))) = true from h)
      have h3 := (Bool.and_eq_true_iff.mp h2).1
      have : dpL ms ≤ max 3 (m + 1) := dpL_le fun t ht => by
        have h4 := List.all_eq_true.mp h3 t ht
        have hbm := hb (thirdT t) (by unfold blOf1; rw [if_neg (by decide +kernel), if_pos rfl]; exact List.mem_map.mpr ⟨t, ht, rfl⟩)
        unfold methodB at h4
        split at h4
        · rename_i nm ps b
          have hbm : dpT b ≤ m := hbm
          obtain ⟨h5, h6⟩ := Bool.and_eq_true_iff.mp h4
          have hn : dpT nm = 0 := by
            cases nm <;> first | rfl | cases h5
          have hps : dpL ps ≤ 0 := dpL_le fun y hy => by
            have h7 : (decide (ps.length ≤ 3) && (ps.all isNameT && decide (dc (ps.map strOf) = ps.length))) = true := (Bool.and_eq_true_iff.mp h6).1
            have h8 := List.all_eq_true.mp (Bool.and_eq_true_iff.mp (Bool.and_eq_true_iff.mp h7).2).1 y hy
            cases y <;> first | exact Nat.le_refl _ | cases h8
          show max (dpT nm) (max (dpL ps + 1) (max (dpT b) 0)) + 1 ≤ _
          omega
        · cases h4
      show dpL ms + 1 ≤ _
      omega
    | _ => cases h
theorem stmt_dp {m : Nat} {t : Th} (h : stmtB t = true) (hb : ∀ b ∈ ofT blOf1 t, dpT b ≤ m) : dpT t ≤ max 18 (m + 3) := by
  obtain ⟨w, l, ts, rfl, hw, hl, hn, hp⟩ := stmt_parts h
  have hbl : ofT blOf1 (.tup (.str w :: ts)) = (l.zip ts).flatMap (fun p => blOf1 p.1 p.2) := by
    show (((t_STATEMENTS.lookup (fw (.tup (.str w :: ts)))).getD []).zip ts).flatMap _ = _
    rw [hw, hl]
    rfl
  have hks := List.all_eq_true.mp (List.all_eq_true.mp tab_sk _ (lk_mem hl))
  have : dpL ts ≤ max 17 (m + 2) := dpL_le fun u hu => by
    obtain ⟨i, hi⟩ := List.getElem?_of_mem hu
    have hil := (List.getElem?_eq_some_iff.mp hi).1
    have hk : l[i]? = some (l[i]'(by omega)) := List.getElem?_eq_getElem (by omega)
    have hz : (l[i]'(by omega), u) ∈ l.zip ts := List.mem_of_getElem? (i := i) (by rw [List.getElem?_zip_eq_some]; exact ⟨hk, hi⟩)
    exact part_dpS (of_decide_eq_true (hks _ (List.getElem_mem _))) (hp i _ u hk hi) fun b hbb => hb b (by rw [hbl]; exact List.mem_flatMap.mpr ⟨_, hz, hbb⟩)
  show max 0 (dpL ts) + 1 ≤ _
  omega
theorem okS_dp : ∀ {g : Nat} {r : Str} {l : Bool} {t : Th}, OkS g r l t → dpT t ≤ 18 + 4 * g
  | 0, _, _, _, h => h.elim
  | g + 1, r, l, t, h => by
    have := stmt_dp (m := 19 + 4 * g) h.2.1 fun b hb => by
      obtain ⟨us, rfl, _, hu⟩ := h.2.2.2 b hb
      show dpL us + 1 ≤ _
      have := dpL_le (n := 18 + 4 * g) fun u hu2 => okS_dp (hu u hu2)
      omega
    omega
theorem WB.adm {t t' : Th} {n : Nat} {us vs : List Th} (h : WB t n us vs t') (ht : Adm t) (hv : Adm (.lst vs)) : Adm t' := by
  have key : ∀ (ts ts' : List Th), Adm (.tup ts) → ts'.length = ts.length → headOk ts' = true → (∀ u ∈ ts', Adm u) → Adm (.tup ts') := fun ts ts' h1 h2 h3 h4 => adm_tup h4 (by rw [h2]; exact h1.tup.1) h3
  cases h with
  | cls z ab mz mp m1 m2 =>
    have am := adm_mem ht
    have al := am (.lst (m1 ++ .tup [mz, mp, .lst us] :: m2)) (by simp)
    have aml := adm_memL al
    have amm := adm_mem (aml (.tup [mz, mp, .lst us]) (by simp))
    refine key _ _ ht rfl (head_ok _) (adm_cons (am _ (by simp)) (adm_cons (am z (by simp)) (adm_cons (am ab (by simp)) (adm_cons (adm_lst (fun u hu => ?_) (by have := al.lst.1; simpa using this)) adm_nil))))
    rcases List.mem_append.mp hu with hu | hu
    · exact aml u (List.mem_append_left _ hu)
    · rcases List.mem_cons.mp hu with rfl | hu
      · have hh : headOk [mz, mp, .lst us] = true := (aml (.tup [mz, mp, .lst us]) (by simp)).tup.2.1
        exact adm_tup (adm_cons (amm mz (by simp)) (adm_cons (amm mp (by simp)) (adm_cons hv adm_nil))) (by simp) (by cases mz <;> first | exact hh | rfl)
      · exact aml u (List.mem_append_right _ (List.mem_cons_of_mem _ hu))
  | _ =>
    have am := adm_mem ht
    refine key _ _ ht rfl (head_ok _) fun u hu => ?_
    simp only [List.mem_cons, List.not_mem_nil, or_false] at hu am
    rcases hu with rfl | rfl | rfl | rfl | rfl <;> first | exact hv | exact am _ (by simp)
end K0
/-! ## K6F -/
set_option Elab.async false
set_option linter.all false
set_option maxRecDepth 100000
set_option maxHeartbeats 4000000
namespace K0
open PySem PySem.Spec PyProof.Rows L2 Evl RZ KB
theorem WB.admU {t t' : Th} {n : Nat} {us vs : List Th} (h : WB t n us vs t') (ht : Adm t) : Adm (.lst us) := by
  cases h with
  | cls z ab mz mp m1 m2 => exact adm_mem (adm_memL (adm_mem ht (.lst (m1 ++ .tup [mz, mp, .lst us] :: m2)) (by simp)) (.tup [mz, mp, .lst us]) (by simp)) _ (by simp)
  | _ => exact adm_mem ht _ (by simp)
theorem PT.adm {s : Th} {path : List Nat} {ts ts' : List Th} (h : PT s path ts ts') (hs : Adm s) : Adm (.lst ts) → Adm (.lst ts') := by
  induction h with
  | here k ts hk =>
    intro h
    exact adm_lst (fun u hu => by
      rcases List.mem_or_eq_of_mem_set hu with hu | rfl
      · exact adm_memL h u hu
      · exact hs) (by rw [List.length_set]; exact h.lst.1)
  | deep k n rest ts us us' t t' ht hp hw ih =>
    intro h
    have hat := adm_memL h t (List.mem_of_getElem? ht)
    exact adm_lst (fun u hu => by
      rcases List.mem_or_eq_of_mem_set hu with hu | rfl
      · exact adm_memL h u hu
      · exact hw.adm hat (ih (hw.admU hat))) (by rw [List.length_set]; exact h.lst.1)
def atT : List Nat → List Th → Option Th
  | [k], ts => ts[k]?
  | k :: n :: rest, ts => match ts[k]? with
    | some t => match (ofT blOf1 t)[n]? with
      | some b => atT rest (elems b)
      | none => none
    | none => none
  | [], _ => none
theorem atT_deep {k n : Nat} {rest : List Nat} {ts us : List Th} {t : Th} (ht : ts[k]? = some t) (hb : (ofT blOf1 t)[n]? = some (.lst us)) : atT (k :: n :: rest) ts = atT rest us := by
  show (match ts[k]? with
    | some t => match (ofT blOf1 t)[n]? with
      | some b => atT rest (elems b)
      | none => none
    | none => none) = _
  rw [ht]
  show (match (ofT blOf1 t)[n]? with
      | some b => atT rest (elems b)
      | none => none) = _
  rw [hb]
  try rfl
theorem dpL_mem {ts : List Th} {t : Th} (h : t ∈ ts) : dpT t ≤ dpL ts := by
  obtain ⟨i, hi⟩ := List.getElem?_of_mem h
  exact dpL_get hi
theorem dpL_app : ∀ (as bs : List Th), dpL (as ++ bs) = max (dpL as) (dpL bs)
  | [], bs => by
    show dpL bs = max 0 (dpL bs)
    omega
  | a :: as, bs => by
    show max (dpT a) (dpL (as ++ bs)) = max (max (dpT a) (dpL as)) (dpL bs)
    rw [dpL_app as bs]
    omega
theorem WB.dp {t t' : Th} {n m : Nat} {us vs : List Th} (h : WB t n us vs t') (hv : dpL vs ≤ max (dpL us) m) : dpT t' ≤ max (dpT t) (m + 4) := by
  cases h with
  | cls z ab mz mp m1 m2 =>
    simp only [dpT, dpL, dpL_app]
    omega
  | _ =>
    simp only [dpT, dpL]
    omega
theorem PT.dp {s : Th} {m : Nat} {path : List Nat} {ts ts' : List Th} (h : PT s path ts ts') : (∀ t, atT path ts = some t → dpT s ≤ max (dpT t) m) → dpL ts' ≤ max (dpL ts) (m + 2 * path.length) := by
  induction h with
  | here k ts hk =>
    intro h
    have ht : ts[k]? = some ts[k] := List.getElem?_eq_getElem hk
    have h1 := h _ ht
    have h2 := dpL_get ht
    refine dpL_le fun u hu => ?_
    rcases List.mem_or_eq_of_mem_set hu with hu | rfl
    · have := dpL_mem hu
      omega
    · omega
  | deep k n rest ts us us' t t' ht hp hw ih =>
    intro h
    have h1 := hw.dp (ih fun u hu => h u (by rw [atT_deep ht hw.bl.2]; exact hu))
    have h2 := dpL_get ht
    refine dpL_le fun u hu => ?_
    rw [List.length_cons, List.length_cons]
    rcases List.mem_or_eq_of_mem_set hu with hu | rfl
    · have := dpL_mem hu
      omega
    · omega
theorem path_at {Z : Nat → Str → Bool → Th → Prop} : ∀ (g : Nat) (r : Str) (l : Bool) (path : List Nat) (ts : List Th) (c : Nat), PathTo Z g r l path ts c → ∃ t g' r' l', atT path ts = some t ∧ Z g' r' l' t
  | 0, _, _, _, _, _, h => h.elim
  | _ + 1, _, _, [], _, _, h => h.elim
  | g + 1, r, l, [k], ts, c, h => by
    obtain ⟨hk, hpre, t, ht, hzt, rfl⟩ := h
    exact ⟨t, _, _, _, ht, hzt⟩
  | g + 1, r, l, k :: n :: rest, ts, c, h => by
    obtain ⟨hk, hpre, t, us, c', ht, hs, hf, hb, hbl, hr, rfl⟩ := h
    rw [atT_deep ht hb]
    exact path_at g _ _ rest us c' hr
/-! the rows of a block -/
def rowsI (rec : List Nat → Th → List (List Nat × Th)) (p : List Nat) : Nat → List Th → List (List Nat × Th)
  | _, [] => []
  | n, b :: bs => rec (p ++ [n]) b ++ rowsI rec p (n + 1) bs
def rowsS (rec : List Nat → Th → List (List Nat × Th)) (p : List Nat) : Nat → List Th → List (List Nat × Th)
  | _, [] => []
  | k, t :: ts => (p ++ [k], t) :: (rowsI rec (p ++ [k]) 0 (ofT blOf1 t) ++ rowsS rec p (k + 1) ts)
def rowsG : Nat → List Nat → List Th → List (List Nat × Th)
  | 0, _, _ => []
  | g + 1, p, ts => rowsS (fun p b => rowsG g p (elems b)) p 0 ts
theorem cntL_cons {g : Nat} {t : Th} {ts : List Th} : cntL g (t :: ts) = cntS g t + cntL g ts := rfl
theorem rowsB_len {g : Nat} (ih : ∀ p ts, (rowsG g p ts).length = cntL g ts) (p : List Nat) : ∀ (bs : List Th) (n : Nat), (rowsI (fun p b => rowsG g p (elems b)) p n bs).length = sumB g bs
  | [], _ => rfl
  | b :: bs, n => by
    show (rowsG g (p ++ [n]) (elems b) ++ rowsI _ p (n + 1) bs).length = _
    rw [List.length_append, ih, rowsB_len ih p bs (n + 1)]
    rfl
theorem rowsS_len {g : Nat} (ih : ∀ p ts, (rowsG g p ts).length = cntL g ts) (p : List Nat) : ∀ (ts : List Th) (k : Nat), (rowsS (fun p b => rowsG g p (elems b)) p k ts).length = cntL (g + 1) ts
  | [], _ => rfl
  | t :: ts, k => by
    show ((p ++ [k], t) :: (rowsI _ (p ++ [k]) 0 (ofT blOf1 t) ++ rowsS _ p (k + 1) ts)).length = _
    rw [List.length_cons, List.length_append, rowsB_len ih, rowsS_len ih p ts (k + 1), cntL_cons]
    show _ = 1 + sumB g (ofT blOf1 t) + _
    omega
theorem rowsG_len : ∀ (g : Nat) (p : List Nat) (ts : List Th), (rowsG g p ts).length = cntL g ts
  | 0, p, ts => by
    show 0 = (ts.map (cntS 0)).sum
    induction ts with
    | nil => rfl
    | cons t ts ih =>
      show 0 = 0 + (ts.map (cntS 0)).sum
      omega
  | g + 1, p, ts => rowsS_len (rowsG_len g) p ts 0
def OkZ (g : Nat) (r : Str) (l : Bool) (t : Th) : Prop := OkS (g + 1) r l t
theorem rowsB_path {g : Nat} {r : Str} {l : Bool} {p : List Nat} (ih : ∀ (p : List Nat) (ts : List Th) (i : Nat) (q : List Nat) (u : Th), (ts.length ≤ 12 ∧ ∀ t ∈ ts, OkS g r l t) → (rowsG g p ts)[i]? = some (q, u) → ∃ path, q = p ++ path ∧ PathTo OkZ g r l path ts i ∧ atT path ts = some u) :
    ∀ (pre bs : List Th) (i : Nat) (q : List Nat) (u : Th), (∀ b ∈ bs, ∃ us, b = .lst us ∧ us.length ≤ 12 ∧ ∀ t ∈ us, OkS g r l t) → (rowsI (fun p b => rowsG g p (elems b)) p pre.length bs)[i]? = some (q, u) → ∃ n us path c', q = p ++ n :: path ∧ (pre ++ bs)[n]? = some (.lst us) ∧ PathTo OkZ g r l path us c' ∧ atT path us = some u ∧ pre.length ≤ n ∧ sumB g pre + i = sumB g ((pre ++ bs).take n) + c'
  | pre, [], i, q, u, _, h => by
    have h : ([] : List (List Nat × Th))[i]? = some (q, u) := h
    simp at h
  | pre, b :: bs, i, q, u, hb, h => by
    obtain ⟨us, rfl, hus⟩ := hb b List.mem_cons_self
    have h : (rowsG g (p ++ [pre.length]) us ++ rowsI (fun p b => rowsG g p (elems b)) p (pre.length + 1) bs)[i]? = some (q, u) := h
    by_cases hi : i < (rowsG g (p ++ [pre.length]) us).length
    · rw [List.getElem?_append_left hi] at h
      obtain ⟨path, h1, h2, h3⟩ := ih _ us i q u hus h
      exact ⟨pre.length, us, path, i, by rw [h1]; simp, by simp, h2, h3, Nat.le_refl _, by simp⟩
    · rw [List.getElem?_append_right (by omega)] at h
      have hl := rowsG_len g (p ++ [pre.length]) us
      have hpl : (pre ++ [Th.lst us]).length = pre.length + 1 := by simp
      rw [← hpl] at h
      obtain ⟨n, vs, path, c', h1, h2, h3, h4, h5, h6⟩ := rowsB_path ih (pre ++ [.lst us]) bs _ q u (fun b h => hb b (List.mem_cons_of_mem _ h)) h
      rw [List.append_assoc] at h2 h6
      have hs : sumB g (pre ++ [.lst us]) = sumB g pre + cntL g us := by
        unfold sumB
        rw [List.map_append, List.sum_append]
        simp [elems]
      exact ⟨n, vs, path, c', h1, h2, h3, h4, by omega, by
        have h6 : sumB g (pre ++ [.lst us]) + (i - (rowsG g (p ++ [pre.length]) us).length) = sumB g ((pre ++ .lst us :: bs).take n) + c' := h6
        omega⟩
theorem rowsS_path {g : Nat} {r : Str} {l : Bool} {p : List Nat} (ih : ∀ (r : Str) (l : Bool) (p : List Nat) (ts : List Th) (i : Nat) (q : List Nat) (u : Th), (ts.length ≤ 12 ∧ ∀ t ∈ ts, OkS g r l t) → (rowsG g p ts)[i]? = some (q, u) → ∃ path, q = p ++ path ∧ PathTo OkZ g r l path ts i ∧ atT path ts = some u) :
    ∀ (pre ts : List Th) (i : Nat) (q : List Nat) (u : Th), (pre ++ ts).length ≤ 12 → (∀ t ∈ pre ++ ts, OkS (g + 1) r l t) → (rowsS (fun p b => rowsG g p (elems b)) p pre.length ts)[i]? = some (q, u) → ∃ path, q = p ++ path ∧ PathTo OkZ (g + 1) r l path (pre ++ ts) (cntL (g + 1) pre + i) ∧ atT path (pre ++ ts) = some u
  | pre, [], i, q, u, _, _, h => by
    have h : ([] : List (List Nat × Th))[i]? = some (q, u) := h
    simp at h
  | pre, t :: ts, i, q, u, hlen, hok, h => by
    have h : ((p ++ [pre.length], t) :: (rowsI (fun p b => rowsG g p (elems b)) (p ++ [pre.length]) 0 (ofT blOf1 t) ++ rowsS (fun p b => rowsG g p (elems b)) p (pre.length + 1) ts))[i]? = some (q, u) := h
    have ht : (pre ++ t :: ts)[pre.length]? = some t := by simp
    have htk : (pre ++ t :: ts).take pre.length = pre := by simp
    have hokt := hok t (by simp)
    have hk : pre.length ≤ 11 := by
      rw [List.length_append, List.length_cons] at hlen
      omega
    have hpre : ∀ u ∈ (pre ++ t :: ts).take pre.length, OkS (g + 1) r l u := fun u hu => hok u (List.mem_of_mem_take hu)
    cases i with
    | zero =>
      cases h
      exact ⟨[pre.length], rfl, ⟨hk, hpre, t, ht, hokt, by rw [htk]; rfl⟩, ht⟩
    | succ i =>
      rw [List.getElem?_cons_succ] at h
      have hl := rowsB_len (rowsG_len g) (p ++ [pre.length]) (ofT blOf1 t) 0
      by_cases hi : i < (rowsI (fun p b => rowsG g p (elems b)) (p ++ [pre.length]) 0 (ofT blOf1 t)).length
      · rw [List.getElem?_append_left hi] at h
        obtain ⟨n, us, path, c', h1, h2, h3, h4, h5, h6⟩ := rowsB_path (ih (inR (fw t) r) (inL (fw t) l)) [] (ofT blOf1 t) i q u hokt.2.2.2 h
        rw [List.nil_append] at h2 h6
        have h0 : sumB g [] = 0 := rfl
        refine ⟨pre.length :: n :: path, by rw [h1]; simp, ⟨hk, hpre, t, us, c', ht, hokt.2.1, hokt.2.2.1, h2, fun b hb => hokt.2.2.2 b (List.mem_of_mem_take hb), h3, ?_⟩, by rw [atT_deep ht h2]; exact h4⟩
        rw [htk]
        omega
      · rw [List.getElem?_append_right (by omega)] at h
        have hpl : (pre ++ [t]).length = pre.length + 1 := by simp
        rw [← hpl] at h
        have e : pre ++ t :: ts = (pre ++ [t]) ++ ts := by simp
        obtain ⟨path, h1, h2, h3⟩ := rowsS_path ih (pre ++ [t]) ts _ q u (by rw [← e]; exact hlen) (by rw [← e]; exact hok) h
        rw [← e] at h2 h3
        refine ⟨path, h1, ?_, h3⟩
        have hc : cntL (g + 1) (pre ++ [t]) + (i - (rowsI (fun p b => rowsG g p (elems b)) (p ++ [pre.length]) 0 (ofT blOf1 t)).length) = cntL (g + 1) pre + (i + 1) := by
          rw [cntL_app]
          have h1 : cntL (g + 1) [t] = 1 + sumB g (ofT blOf1 t) + 0 := rfl
          omega
        rw [← hc]
        exact h2
theorem rowsG_path : ∀ (g : Nat) (r : Str) (l : Bool) (p : List Nat) (ts : List Th) (i : Nat) (q : List Nat) (u : Th), (ts.length ≤ 12 ∧ ∀ t ∈ ts, OkS g r l t) → (rowsG g p ts)[i]? = some (q, u) → ∃ path, q = p ++ path ∧ PathTo OkZ g r l path ts i ∧ atT path ts = some u
  | 0, _, _, _, _, _, _, _, _, h => by
    have h : ([] : List (List Nat × Th))[_]? = some (_, _) := h
    simp at h
  | g + 1, r, l, p, ts, i, q, u, hb, h => by
    have := rowsS_path (rowsG_path g) [] ts i q u hb.1 hb.2 h
    rw [List.nil_append] at this
    have h0 : cntL (g + 1) [] = 0 := rfl
    rw [h0, Nat.zero_add] at this
    exact this
end K0
/-! ## LA -/
set_option Elab.async false
set_option linter.all false
set_option maxRecDepth 100000
set_option maxHeartbeats 4000000
namespace K0
open PySem PySem.Spec PyProof.Rows L2 Evl RZ KB
/-- a path has one place -/
theorem path_fun {Z Z' : Nat → Str → Bool → Th → Prop} : ∀ (g : Nat) (r : Str) (l : Bool) (path : List Nat) (ts : List Th) (c c2 : Nat), PathTo Z g r l path ts c → PathTo Z' g r l path ts c2 → c = c2
  | 0, _, _, _, _, _, _, h, _ => h.elim
  | _ + 1, _, _, [], _, _, _, h, _ => h.elim
  | g + 1, r, l, [k], ts, c, c2, h, h2 => by
    obtain ⟨_, _, _, _, _, rfl⟩ := h
    obtain ⟨_, _, _, _, _, rfl⟩ := h2
    rfl
  | g + 1, r, l, k :: n :: rest, ts, c, c2, h, h2 => by
    obtain ⟨_, _, t, us, c', ht, hs, _, hb, _, hr, rfl⟩ := h
    obtain ⟨_, _, t2, us2, c2', ht2, hs2, _, hb2, _, hr2, rfl⟩ := h2
    rw [ht] at ht2
    cases ht2
    rw [hb] at hb2
    cases hb2
    rw [path_fun g _ _ rest us c' c2' hr hr2]
/-! the rows of the survey of a good block -/
def ptR (w : Row) : List Nat × Th := (w.p, w.t)
theorem surv_step {N : Nat} {fo ws : List Row} {w : Row} (h1 : fo.length ≠ 80) (h2 : w.last ≠ 12) (h3 : okRow w = true) : surveyM (N + 1) fo (w :: ws) = surveyM N (fo ++ [w]) (innerRows w ++ ws) := by
  show (if (decide (fo.length = 80) || decide (w.last = 12)) = true then (fo, some w.p) else if okRow w = true then surveyM N (fo ++ [w]) (innerRows w ++ ws) else (fo, some w.p)) = _
  rw [if_neg (by rw [decide_eq_false h1, decide_eq_false h2]; decide), if_pos h3]
def SurvB (f : Nat) : Prop := ∀ (bs : List Th) (n : Nat) (p : List Nat) (r : Str) (l : Bool) (N : Nat) (fo ws : List Row), (∀ b ∈ bs, ∃ us, b = .lst us ∧ us.length ≤ 12 ∧ ∀ u ∈ us, OkS (f + 1) r l u) → fo.length + sumB (f + 1) bs ≤ 80 → sumB (f + 1) bs ≤ N →
  ∃ R, surveyM N fo (blocksK p (8 - ((f : Nat) : Int)) r l n bs ++ ws) = surveyM (N - sumB (f + 1) bs) (fo ++ R) ws ∧ R.map ptR = rowsI (fun p b => rowsG (f + 1) p (elems b)) p n bs
def SurvA (f : Nat) : Prop := ∀ (ts : List Th) (k : Nat) (p : List Nat) (r : Str) (l : Bool) (N : Nat) (fo ws : List Row), k + ts.length ≤ 12 → (∀ t ∈ ts, OkS (f + 1) r l t) → fo.length + cntL (f + 1) ts ≤ 80 → cntL (f + 1) ts ≤ N →
  ∃ R, surveyM N fo (rowsK p (8 - ((f : Nat) : Int)) r l k ts ++ ws) = surveyM (N - cntL (f + 1) ts) (fo ++ R) ws ∧ R.map ptR = rowsS (fun p b => rowsG f p (elems b)) p k ts
theorem survB_of {f : Nat} (hA : SurvA f) : SurvB f
  | [], n, p, r, l, N, fo, ws, _, _, _ => ⟨[], by rw [List.append_nil]; rfl, rfl⟩
  | b :: bs, n, p, r, l, N, fo, ws, hb, hc, hN => by
    obtain ⟨us, rfl, hl, hu⟩ := hb b List.mem_cons_self
    have hs : sumB (f + 1) (.lst us :: bs) = cntL (f + 1) us + sumB (f + 1) bs := rfl
    rw [hs] at hc hN ⊢
    obtain ⟨R1, h1, h2⟩ := hA us 0 (p ++ [n]) r l N fo (blocksK p (8 - ((f : Nat) : Int)) r l (n + 1) bs ++ ws) (by omega) hu (by omega) (by omega)
    have hl1 : R1.length = cntL (f + 1) us := by
      rw [← List.length_map (f := ptR), h2, rowsS_len (rowsG_len f)]
    obtain ⟨R2, h3, h4⟩ := survB_of hA bs (n + 1) p r l (N - cntL (f + 1) us) (fo ++ R1) ws (fun b h => hb b (List.mem_cons_of_mem _ h)) (by rw [List.length_append, hl1]; omega) (by omega)
    refine ⟨R1 ++ R2, ?_, ?_⟩
    · rw [blocksK_cons, List.append_assoc]
      show surveyM N fo (rowsK (p ++ [n]) (8 - ((f : Nat) : Int)) r l 0 us ++ _) = _
      rw [h1, h3, List.append_assoc, Nat.sub_sub]
    · rw [List.map_append, h2, h4]
      rfl
theorem survA_cons {f : Nat} (hin : ∀ (t : Th) (q : List Nat) (r : Str) (l : Bool) (N : Nat) (fo ws : List Row), OkS (f + 1) r l t → fo.length + sumB f (ofT blOf1 t) ≤ 80 → sumB f (ofT blOf1 t) ≤ N → ∃ R, surveyM N fo (innerRows ⟨q, t, 8 - ((f : Nat) : Int), r, l⟩ ++ ws) = surveyM (N - sumB f (ofT blOf1 t)) (fo ++ R) ws ∧ R.map ptR = rowsI (fun p b => rowsG f p (elems b)) q 0 (ofT blOf1 t)) : SurvA f
  | [], k, p, r, l, N, fo, ws, _, _, _, _ => ⟨[], by
    rw [show rowsK p (8 - ((f : Nat) : Int)) r l k [] = [] by unfold rowsK; rw [List.take_nil]; rfl, List.append_nil]
    rfl, rfl⟩
  | t :: ts, k, p, r, l, N, fo, ws, hk, hts, hc, hN => by
    have ht := hts t List.mem_cons_self
    have hcnt : cntL (f + 1) (t :: ts) = (1 + sumB f (ofT blOf1 t)) + cntL (f + 1) ts := rfl
    rw [hcnt] at hc hN ⊢
    rw [List.length_cons] at hk
    obtain ⟨N, rfl⟩ : ∃ N', N = N' + 1 := ⟨N - 1, by omega⟩
    have hlast : (⟨p ++ [k], t, 8 - ((f : Nat) : Int), r, l⟩ : Row).last = k := by
      show (p ++ [k]).getLastD 0 = k
      simp
    obtain ⟨R1, h1, h2⟩ := hin t (p ++ [k]) r l N (fo ++ [⟨p ++ [k], t, 8 - ((f : Nat) : Int), r, l⟩]) (rowsK p (8 - ((f : Nat) : Int)) r l (k + 1) ts ++ ws) ht (by rw [List.length_append, List.length_singleton]; omega) (by omega)
    have hl1 : R1.length = sumB f (ofT blOf1 t) := by
      rw [← List.length_map (f := ptR), h2, rowsB_len (rowsG_len f)]
    obtain ⟨R2, h3, h4⟩ := survA_cons hin ts (k + 1) p r l (N - sumB f (ofT blOf1 t)) ((fo ++ [⟨p ++ [k], t, 8 - ((f : Nat) : Int), r, l⟩]) ++ R1) ws (by omega) (fun u h => hts u (List.mem_cons_of_mem _ h)) (by rw [List.length_append, List.length_append, List.length_singleton, hl1]; omega) (by omega)
    refine ⟨⟨p ++ [k], t, 8 - ((f : Nat) : Int), r, l⟩ :: (R1 ++ R2), ?_, ?_⟩
    · rw [rowsK_cons (by omega), List.cons_append, surv_step (by omega) (by rw [hlast]; omega) (okRow_of ht.2.1 ht.2.2.1), h1, h3]
      congr 1
      · omega
      · simp
    · rw [List.map_cons, List.map_append, h2, h4]
      rfl
theorem surv_all : ∀ f : Nat, SurvA f
  | 0 => survA_cons fun t q r l N fo ws ht hc hN => by
    have hb : ofT blOf1 t = [] := okRow_deep (p := []) (show (stmtB t && fitsB t 8 r l) = true by rw [ht.2.1, show fitsB t 8 r l = true from ht.2.2.1]; rfl)
    refine ⟨[], ?_, by rw [hb]; rfl⟩
    rw [show innerRows ⟨q, t, 8 - ((0 : Nat) : Int), r, l⟩ = [] by show (ofT blOf1 t).zipIdx.flatMap _ = []; rw [hb]; rfl, List.append_nil, hb]
    rfl
  | f + 1 => survA_cons fun t q r l N fo ws ht hc hN => by
    have := survB_of (surv_all f) (ofT blOf1 t) 0 q (inR (fw t) r) (inL (fw t) l) N fo ws ht.2.2.2 hc hN
    have hd : (8 - ((f + 1 : Nat) : Int)) + 1 = 8 - ((f : Nat) : Int) := by omega
    have e : innerRows ⟨q, t, 8 - ((f + 1 : Nat) : Int), r, l⟩ = blocksK q (8 - ((f : Nat) : Int)) (inR (fw t) r) (inL (fw t) l) 0 (ofT blOf1 t) := by
      rw [← hd]
      rfl
    rw [e]
    exact this
theorem survey_rows {ts : List Th} (hb : BlkOk 8 "top" false ts) (hc : cntL 8 ts ≤ 80) : (surveyT ts).1.map ptR = rowsG 8 [] ts := by
  obtain ⟨R, h1, h2⟩ := surv_all 7 ts 0 [] "top" false 82 [] [] (by have := hb.1; omega) hb.2 (by show 0 + cntL 8 ts ≤ 80; omega) (by show cntL 8 ts ≤ 82; omega)
  rw [List.append_nil] at h1
  have h1 : surveyT ts = _ := h1
  have e : surveyM (82 - cntL 8 ts) ([] ++ R) [] = (R, none) := by
    obtain ⟨n, hn⟩ : ∃ n, 82 - cntL 8 ts = n + 1 := ⟨82 - cntL 8 ts - 1, by omega⟩
    rw [hn]
    rfl
  rw [h1]
  show (surveyM (82 - cntL (7 + 1) ts) ([] ++ R) []).1.map ptR = _
  rw [e]
  exact h2
/-- each path once -/
theorem rows_nodup {ts : List Th} (hb : BlkOk 8 "top" false ts) : ((rowsG 8 [] ts).map (·.1)).Nodup := by
  refine List.pairwise_iff_getElem.mpr fun i j hi hj hij e => ?_
  have e : ((rowsG 8 [] ts).map (·.1))[i]? = ((rowsG 8 [] ts).map (·.1))[j]? := by rw [List.getElem?_eq_getElem hi, List.getElem?_eq_getElem hj, e]
  rw [List.length_map] at hj
  obtain ⟨⟨q1, u1⟩, h1⟩ : ∃ x, (rowsG 8 [] ts)[i]? = some x := ⟨_, List.getElem?_eq_getElem (by omega)⟩
  obtain ⟨⟨q2, u2⟩, h2⟩ : ∃ x, (rowsG 8 [] ts)[j]? = some x := ⟨_, List.getElem?_eq_getElem hj⟩
  rw [List.getElem?_map, List.getElem?_map, h1, h2] at e
  have e : q1 = q2 := Option.some.inj e
  subst e
  obtain ⟨p1, e1, g1, _⟩ := rowsG_path 8 "top" false [] ts i q1 u1 hb h1
  obtain ⟨p2, e2, g2, _⟩ := rowsG_path 8 "top" false [] ts j q1 u2 hb h2
  rw [List.nil_append] at e1 e2
  subst e1
  subst e2
  have := path_fun _ _ _ _ _ _ _ g1 g2
  omega
theorem survey_nodup {ts : List Th} (hb : BlkOk 8 "top" false ts) (hc : cntL 8 ts ≤ 80) : ((surveyT ts).1.map (·.p)).Nodup := by
  have := rows_nodup hb
  rw [← survey_rows hb hc, List.map_map] at this
  exact this
end K0
/-! ## K6N -/
set_option Elab.async false
set_option linter.all false
set_option maxRecDepth 100000
set_option maxHeartbeats 4000000
namespace K0
open PySem PySem.Spec PyProof.Rows L2 Evl RZ KB
/-! fewer statements ahead: ahead in reading order -/
theorem cnt_take {g : Nat} {ts : List Th} {k : Nat} {t : Th} (h : ts[k]? = some t) : cntL g (ts.take (k + 1)) = cntL g (ts.take k) + cntS g t := by
  rw [take_more h, cntL_app]
  have : cntL g [t] = cntS g t + 0 := rfl
  omega
theorem cnt_mono {g : Nat} {ts : List Th} {j k : Nat} (h : j ≤ k) : cntL g (ts.take j) ≤ cntL g (ts.take k) := by
  have e : ts.take j = (ts.take k).take j := by rw [List.take_take, Nat.min_eq_left h]
  have : cntL g (ts.take k) = cntL g ((ts.take k).take j) + cntL g ((ts.take k).drop j) := by rw [← cntL_app, List.take_append_drop]
  rw [e]
  omega
theorem sum_mono {g : Nat} {bs : List Th} {j k : Nat} (h : j ≤ k) : sumB g (bs.take j) ≤ sumB g (bs.take k) := by
  have e : bs.take j = (bs.take k).take j := by rw [List.take_take, Nat.min_eq_left h]
  have : sumB g (bs.take k) = sumB g ((bs.take k).take j) + sumB g ((bs.take k).drop j) := by
    unfold sumB
    rw [← List.sum_append, ← List.map_append, List.take_append_drop]
  rw [e]
  omega
theorem sum_take {g : Nat} {bs us : List Th} {n : Nat} (h : bs[n]? = some (.lst us)) : sumB g (bs.take (n + 1)) = sumB g (bs.take n) + cntL g us := by
  rw [take_more h]
  unfold sumB
  rw [List.map_append, List.sum_append]
  have : (([Th.lst us]).map fun b => cntL g (elems b)).sum = cntL g us + 0 := rfl
  omega
theorem sum_le {g : Nat} {bs : List Th} {j : Nat} : sumB g (bs.take j) ≤ sumB g bs := by
  have : sumB g bs = sumB g (bs.take j) + sumB g (bs.drop j) := by
    unfold sumB
    rw [← List.sum_append, ← List.map_append, List.take_append_drop]
  omega
theorem cnt_le {g : Nat} {ts : List Th} {j : Nat} : cntL g (ts.take j) ≤ cntL g ts := by
  have : cntL g ts = cntL g (ts.take j) + cntL g (ts.drop j) := by rw [← cntL_app, List.take_append_drop]
  omega
/-- a path has fewer statements ahead than there are -/
theorem path_lt {Z : Nat → Str → Bool → Th → Prop} : ∀ (g : Nat) (r : Str) (l : Bool) (path : List Nat) (ts : List Th) (c : Nat), PathTo Z g r l path ts c → c < cntL g ts ∧ ∀ k rest t, path = k :: rest → ts[k]? = some t → c < cntL g (ts.take k) + cntS g t
  | 0, _, _, _, _, _, h => h.elim
  | _ + 1, _, _, [], _, _, h => h.elim
  | g + 1, r, l, [k], ts, c, h => by
    obtain ⟨hk, hpre, t, ht, hzt, rfl⟩ := h
    have h1 := cnt_take (g := g + 1) ht
    have h2 := cnt_le (g := g + 1) (ts := ts) (j := k + 1)
    have h3 : cntS (g + 1) t = 1 + sumB g (ofT blOf1 t) := rfl
    refine ⟨by omega, fun k' rest t' e ht' => ?_⟩
    cases e
    rw [ht] at ht'
    cases ht'
    omega
  | g + 1, r, l, k :: n :: rest, ts, c, h => by
    obtain ⟨hk, hpre, t, us, c', ht, hs, hf, hb, hbl, hr, rfl⟩ := h
    have ih := (path_lt g _ _ rest us c' hr).1
    have h1 := cnt_take (g := g + 1) ht
    have h2 := cnt_le (g := g + 1) (ts := ts) (j := k + 1)
    have h3 : cntS (g + 1) t = 1 + sumB g (ofT blOf1 t) := rfl
    have h4 := sum_take (g := g) hb
    have h5 := sum_le (g := g) (bs := ofT blOf1 t) (j := n + 1)
    refine ⟨by omega, fun k' rest' t' e ht' => ?_⟩
    cases e
    rw [ht] at ht'
    cases ht'
    omega
theorem lex_cnt {Z Z' : Nat → Str → Bool → Th → Prop} : ∀ (g : Nat) (r : Str) (l : Bool) (p q : List Nat) (ts : List Th) (c1 c2 : Nat), PathTo Z g r l p ts c1 → PathTo Z' g r l q ts c2 → lexLt p q → c1 < c2
  | 0, _, _, _, _, _, _, _, h, _, _ => h.elim
  | _ + 1, _, _, [], _, _, _, _, h, _, _ => h.elim
  | _ + 1, _, _, _ :: _, [], _, _, _, _, h, _ => h.elim
  | g + 1, r, l, k :: ps, j :: qs, ts, c1, c2, h1, h2, hlt => by
    have low : cntL (g + 1) (ts.take j) ≤ c2 := by
      cases qs with
      | nil =>
        obtain ⟨_, _, _, _, _, rfl⟩ := h2
        exact Nat.le_refl _
      | cons n qs =>
        obtain ⟨_, _, _, _, c', _, _, _, _, _, _, rfl⟩ := h2
        omega
    obtain ⟨t, ht⟩ : ∃ t, ts[k]? = some t := by
      cases ps with
      | nil =>
        obtain ⟨_, _, t, ht, _, _⟩ := h1
        exact ⟨t, ht⟩
      | cons n ps =>
        obtain ⟨_, _, t, _, _, ht, _⟩ := h1
        exact ⟨t, ht⟩
    have up := (path_lt _ _ _ _ _ _ h1).2 k ps t rfl ht
    have htake := cnt_take (g := g + 1) ht
    rcases hlt with hkj | ⟨rfl, h3⟩
    · have := cnt_mono (g := g + 1) (ts := ts) (j := k + 1) (k := j) hkj
      omega
    · cases qs with
      | nil => cases ps <;> exact h3.elim
      | cons n qs =>
        obtain ⟨_, _, t2, us2, c2', ht2, _, _, hb2, _, hr2, rfl⟩ := h2
        rw [ht] at ht2
        cases ht2
        cases ps with
        | nil =>
          obtain ⟨_, _, t1, ht1, _, rfl⟩ := h1
          omega
        | cons m ps =>
          obtain ⟨_, _, t1, us1, c1', ht1, _, _, hb1, _, hr1, rfl⟩ := h1
          rw [ht] at ht1
          cases ht1
          have hb := (path_lt _ _ _ _ _ _ hr1).1
          have h4 := sum_take (g := g) hb1
          rcases h3 with hmn | ⟨rfl, h5⟩
          · have := sum_mono (g := g) (bs := ofT blOf1 t) (j := m + 1) (k := n) hmn
            omega
          · rw [hb1] at hb2
            cases hb2
            have := lex_cnt g _ _ ps qs _ c1' c2' hr1 hr2 h5
            omega
/-- the rows stand in reading order -/
theorem cnt_lex {Z Z' : Nat → Str → Bool → Th → Prop} {g : Nat} {r : Str} {l : Bool} {p q : List Nat} {ts : List Th} {c1 c2 : Nat} (h1 : PathTo Z g r l p ts c1) (h2 : PathTo Z' g r l q ts c2) (h : c1 < c2) (hne : p ≠ q) : lexLt p q := by
  rcases lex_total p q hne with h3 | h3
  · exact h3
  · have := lex_cnt g r l q p ts c2 c1 h2 h1 h3
    omega
end K0
/-! ## KHG -/
set_option Elab.async false
set_option linter.all false
set_option maxRecDepth 100000
set_option maxHeartbeats 4000000
namespace K0
open PySem PySem.Spec PyProof.Rows L2 Evl RZ KB
/-! _law_same, told whole: what is due first -/
mutual
def sameD : Th → Th → Bool
  | .lst ds, a => match a with
    | .lst as => decide (as.length = ds.length) && sameL ds as
    | _ => false
  | .tup ds, a => match a with
    | .tup as => decide (as.length = ds.length) && sameL ds as
    | _ => false
  | .non, a => isNonT a
  | .str x, a => match a with
    | .str y => decide (y = x)
    | _ => false
  | .bl x, a => match a with
    | .bl y => decide (y = x)
    | _ => false
  | .int x, a => match a with
    | .int y => decide (y = x)
    | _ => false
  | .dic, _ => false
def sameL : List Th → List Th → Bool
  | [], _ => true
  | d :: ds, as => match as with
    | [] => true
    | a :: as => sameD d a && sameL ds as
end
mutual
def okG : Th → Bool
  | .lst ts => decide (ts.length ≤ 1000) && okGL ts
  | .tup ts => decide (ts.length ≤ 1000) && okGL ts
  | .dic => false
  | _ => true
def okGL : List Th → Bool
  | [] => true
  | t :: ts => okG t && okGL ts
end
theorem okGL_get : ∀ {ts : List Th} {i : Nat} {t : Th}, okGL ts = true → ts[i]? = some t → okG t = true
  | [], _, _, _, h => by simp at h
  | t :: ts, 0, u, h, e => by
    simp at e
    subst e
    exact (Bool.and_eq_true_iff.mp (show (okG t && okGL ts) = true from h)).1
  | t :: ts, i + 1, u, h, e => okGL_get (i := i) (Bool.and_eq_true_iff.mp (show (okG t && okGL ts) = true from h)).2 (by simpa using e)
theorem okGL_all : ∀ {ts : List Th}, (∀ t ∈ ts, okG t = true) → okGL ts = true
  | [], _ => rfl
  | t :: ts, h => by
    show (okG t && okGL ts) = true
    rw [h t List.mem_cons_self, okGL_all fun u hu => h u (List.mem_cons_of_mem _ hu)]
    rfl
mutual
theorem sameD_refl : ∀ t : Th, okG t = true → sameD t t = true
  | .lst ts, h => by
    show (decide (ts.length = ts.length) && sameL ts ts) = true
    rw [decide_eq_true rfl, sameL_refl ts (Bool.and_eq_true_iff.mp (show (decide (ts.length ≤ 1000) && okGL ts) = true from h)).2]
    rfl
  | .tup ts, h => by
    show (decide (ts.length = ts.length) && sameL ts ts) = true
    rw [decide_eq_true rfl, sameL_refl ts (Bool.and_eq_true_iff.mp (show (decide (ts.length ≤ 1000) && okGL ts) = true from h)).2]
    rfl
  | .non, _ => rfl
  | .str x, _ => decide_eq_true rfl
  | .bl x, _ => decide_eq_true rfl
  | .int x, _ => decide_eq_true rfl
  | .dic, h => by cases h
theorem sameL_refl : ∀ ts : List Th, okGL ts = true → sameL ts ts = true
  | [], _ => rfl
  | t :: ts, h => by
    obtain ⟨h1, h2⟩ := Bool.and_eq_true_iff.mp (show (okG t && okGL ts) = true from h)
    show (sameD t t && sameL ts ts) = true
    rw [sameD_refl t h1, sameL_refl ts h2]
    rfl
end
theorem sameL_zip : ∀ (ds as : List Th), as.length = ds.length → sameL ds as = ((ds.zip as).map fun p => sameD p.1 p.2).all id
  | [], as, _ => rfl
  | d :: ds, [], h => by cases h
  | d :: ds, a :: as, h => by
    show (sameD d a && sameL ds as) = _
    rw [sameL_zip ds as (by simpa using h)]
    rfl
section
variable {P : Program} {w : World} {K : PySem.W.Frag} {mg : Str → Option Value} {base : Heap} {σ : L2.St} {H H' H0 : Hp} {ta tb tc td te tl tv tk to : TE} {x y kv : V} {X0 : XK} {tu tz : TS} {D : Ends} {g : TG} {R : V → Hp → Prop}
def rIxLT (K : PySem.W.Frag) : R2 := fun x y H Q => rIxL K x y H Q ∨ rIxT K x y H Q
def SpSameG (K : PySem.W.Frag) (d : Nat) : Sp := Pu fun vs H v => ∃ x y a t, vs = [x, y] ∧ Rep K H x a ∧ Rep K H y t ∧ okG t = true ∧ dpT t < d ∧ v = .bl (sameD t a)
theorem same_seq {E : XK} {d : Nat} {p q : Addr} {xs ys : List V} {as ds : List Th} (hp : SqL K H p xs ∨ SqT K H p xs) (hq : SqL K H q ys ∨ SqT K H q ys) (rx : Reps K H xs as) (ry : Reps K H ys ds) (hl : as.length = ds.length) (hz : ds.length ≤ 1000) (hok : okGL ds = true) (hd : dpL ds < d) (h0 : σ[0]? = some (some (.ref p))) (h1 : σ[1]? = some (some (.ref q))) (hn : σ.length = 3) :
    Ev (tCB (rAll K) (tCons (tLc (iRng1 (tCons (tCB (rLenS K) (tCons (tVar 1) tNil)) tNil)) (gName 2) tYes (tCall (SpSameG K d) [] E (tCons (tOp (rIxLT K) (tVar 0) (tVar 2)) (tCons (tOp (rIxLT K) (tVar 1) (tVar 2)) tNil))) [2]) tNil)) σ H (.bl (sameL ds as)) := by
  have lx := rx.length
  have ly := ry.length
  rw [sameL_zip ds as hl]
  have hlen : Ev (tCB (rLenS K) (tCons (tVar 1) tNil)) σ H (.int ((ds.length : Nat) : Int)) := by
    rcases hq with hq | hq
    · exact ev_is (ev_lenL (ev_var h1) hq) (by rw [ly])
    · exact ev_is (ev_lenT (ev_var h1) hq) (by rw [ly])
  have hzl : (ds.zip as).length = ds.length := by rw [List.length_zip, hl, Nat.min_self]
  refine ev_all (el_rng (n := ds.length) hlen (by simp [hl]) (by omega) (fun x => ?_) fun i yv H5 e5 hi hyi => ?_)
  · match σ, hn with
    | [_, _, _], _ => rfl
  · obtain ⟨a, ha⟩ : ∃ a, as[i]? = some a := ⟨_, List.getElem?_eq_getElem (by omega)⟩
    obtain ⟨t, ht⟩ : ∃ t, ds[i]? = some t := ⟨_, List.getElem?_eq_getElem hi⟩
    have hyv : yv = .bl (sameD t a) := by
      rw [List.getElem?_map, List.getElem?_map, show (ds.zip as)[i]? = some (t, a) from List.getElem?_zip_eq_some.mpr ⟨ht, ha⟩] at hyi
      exact (Option.some.inj hyi).symm
    rw [hyv]
    obtain ⟨v1, h1', r1⟩ := (rx.mono e5).get' ha
    obtain ⟨v2, h2', r2⟩ := (ry.mono e5).get' ht
    have s0 : ((wipe σ [2]).set 2 (some (.int ((i : Nat) : Int))))[0]? = some (some (.ref p)) := by
      match σ, hn, h0 with
      | [_, _, _], _, h0 => exact h0
    have s1 : ((wipe σ [2]).set 2 (some (.int ((i : Nat) : Int))))[1]? = some (some (.ref q)) := by
      match σ, hn, h1 with
      | [_, _, _], _, h1 => exact h1
    have s2 : ((wipe σ [2]).set 2 (some (.int ((i : Nat) : Int))))[2]? = some (some (.int ((i : Nat) : Int))) := by
      match σ, hn with
      | [_, _, _], _ => rfl
    have rvx : RV (rIxLT K) (.ref p) (.int ((i : Nat) : Int)) H5 v1 := fun H6 e6 Q k => by
      rcases hp with hp | hp
      · exact .inl (rv_ixL (ex_l e5 hp) (atI_nat h1') H6 e6 Q k)
      · exact .inr (rv_ixT (ex_t e5 hp) (atI_nat h1') H6 e6 Q k)
    have rvy : RV (rIxLT K) (.ref q) (.int ((i : Nat) : Int)) H5 v2 := fun H6 e6 Q k => by
      rcases hq with hq | hq
      · exact .inl (rv_ixL (ex_l e5 hq) (atI_nat h2') H6 e6 Q k)
      · exact .inr (rv_ixT (ex_t e5 hq) (atI_nat h2') H6 e6 Q k)
    exact ev_pu (ea_cons (ev_op (ev_var s0) (ev_var s2) rvx) (ea_cons (ev_op (ev_var s1) (ev_var s2) rvy) ea_nil)) fun H6 e6 => ⟨v1, v2, a, t, rfl, r1.mono e6, r2.mono e6, okGL_get hok ht, Nat.lt_of_le_of_lt (dpL_get ht) hd, rfl⟩
theorem f_sameG (z : Cz w K mg) : ∀ d : Nat, Cl P w K mg base (d + 1) "_law_same" (SpSameG K d)
  | 0 => by
    refine cal_of (k := 0) z.fn__law_same z.glo__law_same K0.c__law_same (fun vs H Q E h => ?_) (fun cdv A outer s H vs Q _ hr h => ?_)
    · obtain ⟨_, ⟨x, y, a, t, rfl, _⟩, _⟩ := h
      rfl
    · obtain ⟨_, ⟨x, y, a, t, rfl, _, _, _, h9, _⟩, _⟩ := h
      exact absurd h9 (Nat.not_lt_zero _)
  | d + 1 => by
    have c__law_same := f_sameG z d
    refine cal_of (k := d + 1) z.fn__law_same z.glo__law_same K0.c__law_same (fun vs H Q E h => ?_) (fun cdv A outer s H vs Q _ hr h => ?_)
    · obtain ⟨_, ⟨x, y, a, t, rfl, _⟩, _⟩ := h
      rfl
    · obtain ⟨_, ⟨x, y, a, t, rfl, rx, ry, ok, hd, rfl⟩, k⟩ := h
      refine ⟨_, (pss_cons (ps_if (PW.pt (pw_or (pt_val (pe_callB call_isi (by rfl) z.free_isinstance boot_isinstance (pa_cons (pv 1) (pa_cons (pe_bty (T := "list") z.free_list (by decide +kernel)) pa_nil)))) (pw_or1 (pt_val (pe_callB call_isi (by rfl) z.free_isinstance boot_isinstance (pa_cons (pv 1) (pa_cons (pe_bty (T := "tuple") z.free_tuple (by decide +kernel)) pa_nil))))))) (pss_cons (ps_if (PW.pt (pw_and (pt_val (pe_callB call_isi (by rfl) z.free_isinstance boot_isinstance (pa_cons (pv 1) (pa_cons (pe_bty (T := "list") z.free_list (by decide +kernel)) pa_nil)))) (pw_and1 (pt_not (pt_val (pe_callB call_isi (by rfl) z.free_isinstance boot_isinstance (pa_cons (pv 0) (pa_cons (pe_bty (T := "list") z.free_list (by decide +kernel)) pa_nil)))))))) (pss_one (ps_ret pe_bl)) pss_nil)
      (pss_cons (ps_if (PW.pt (pw_and (pt_val (pe_callB call_isi (by rfl) z.free_isinstance boot_isinstance (pa_cons (pv 1) (pa_cons (pe_bty (T := "tuple") z.free_tuple (by decide +kernel)) pa_nil)))) (pw_and1 (pt_not (pt_val (pe_callB call_isi (by rfl) z.free_isinstance boot_isinstance (pa_cons (pv 0) (pa_cons (pe_bty (T := "tuple") z.free_tuple (by decide +kernel)) pa_nil)))))))) (pss_one (ps_ret pe_bl)) pss_nil)
      (pss_cons (ps_if (pt_cmpR op_ne (pe_callB call_len_seq (by rfl) z.free_len PySem.boot_len (pa_cons (pv 0) pa_nil)) (pe_callB call_len_seq (by rfl) z.free_len PySem.boot_len (pa_cons (pv 1) pa_nil)) (nomark _)) (pss_one (ps_ret pe_bl)) pss_nil)
      (pss_one (ps_ret (pe_callB (cr_all rfl) (by rfl) z.free_all (by decide +kernel) (pa_cons (pe_lc (own := [("_law_k", 2)]) rfl K0.c__law_same.nd (pi_range1 (by rfl) z.free_range (pa_cons (pe_callB call_len_seq (by rfl) z.free_len PySem.boot_len (pa_cons (pv 1) pa_nil)) pa_nil)) (blkOk_by (N := N__law_same) (sc := defScope s__law_same) (by decide +kernel)) (fun _ _ _ _ _ => (pg_name (i := 2) K0.c__law_same.nd rfl (.inl rfl))) (fun _ _ _ _ _ => pts_nil) (fun _ _ _ _ _ => (pe_c c__law_same hr (by first | decide | omega) (by rfl) (pa_cons (pe_ix (show IxR _ (rIxLT K) from IxR.or ix_list ix_tup) (pv 0) (pv 2) (fun _ _ => rfl)) (pa_cons (pe_ix (show IxR _ (rIxLT K) from IxR.or ix_list ix_tup) (pv 1) (pv 2) (fun _ _ => rfl)) pa_nil))))) pa_nil))))))) pss_nil)
      (pss_cons (ps_if (pt_cmpR op_isN (pv 1) pe_non (nomark _)) (pss_one (ps_ret (pe_cmpR op_isN (pv 0) pe_non (nomark _)))) pss_nil)
      (pss_cons (ps_if (pt_val (pe_callB call_isi (by rfl) z.free_isinstance boot_isinstance (pa_cons (pv 1) (pa_cons (pe_bty (T := "str") z.free_str (by decide +kernel)) pa_nil)))) (pss_one (ps_ret (pe_and (pe_callB call_isi (by rfl) z.free_isinstance boot_isinstance (pa_cons (pv 0) (pa_cons (pe_bty (T := "str") z.free_str (by decide +kernel)) pa_nil))) (pe_one (pe_cmpR op_eq (pv 0) (pv 1) (nomark _)))))) pss_nil)
      (pss_cons (ps_if (pt_val (pe_callB call_isi (by rfl) z.free_isinstance boot_isinstance (pa_cons (pv 1) (pa_cons (pe_bty (T := "bool") z.free_bool (by decide +kernel)) pa_nil)))) (pss_one (ps_ret (pe_and (pe_callB call_isi (by rfl) z.free_isinstance boot_isinstance (pa_cons (pv 0) (pa_cons (pe_bty (T := "bool") z.free_bool (by decide +kernel)) pa_nil))) (pe_one (pe_cmpR op_eq (pv 0) (pv 1) (nomark _)))))) pss_nil)
      (pss_one (ps_ret (pe_and (pe_callB call_isi (by rfl) z.free_isinstance boot_isinstance (pa_cons (pv 0) (pa_cons (pe_bty (T := "int") z.free_int (by decide +kernel)) pa_nil))) (pe_and (pe_not (pe_callB call_isi (by rfl) z.free_isinstance boot_isinstance (pa_cons (pv 0) (pa_cons (pe_bty (T := "bool") z.free_bool (by decide +kernel)) pa_nil)))) (pe_one (pe_cmpR op_eq (pv 0) (pv 1) (nomark _))))))))))), ?_⟩
      have eL := isB_list t
      have eT' := isB_tuple t
      have eS := isB_str t
      have eB := isB_bool t
      have eI := isB_int t
      have aL := isB_list a
      have aT' := isB_tuple a
      have aS := isB_str a
      have aB := isB_bool a
      have aI := isB_int a
      cases t with
      | dic => cases ok
      | lst ts =>
        refine q_when (b := true) (et_is (et_or (a := isB "list" (.lst ts)) (b := true) (et_B (ev_isi tys_list (ev_var rfl) ry)) fun hh => by rw [eL] at hh; cases hh) (by rw [eL]; rfl)) (fun _ H1 e1 => ?_) (fun hh => nomatch hh)
        refine q_when (b := !isLst a) (et_is (et_and (a := isB "list" (.lst ts)) (b := !isLst a) (et_B (ev_isi tys_list (ev_var rfl) (ry.mono e1))) fun hh => et_is (et_not (et_B (ev_isi tys_list (ev_var rfl) (rx.mono e1)))) (by rw [aL])) (by rw [eL]; rfl)) (fun hh H2 e2 => s_ret ev_c fun H3 e3 => ?_) (fun hh H2 e2 => ?_)
        · have q := k H3 ((e1.trans e2).trans e3)
          rw [show sameD (.lst ts) a = false by cases a <;> first | rfl | cases hh] at q
          exact q
        have e12 := e1.trans e2
        refine q_when (b := false) (et_is (et_and (a := isB "tuple" (.lst ts)) (b := false) (et_B (ev_isi tys_tuple (ev_var rfl) (ry.mono e12))) fun hh => by rw [eT'] at hh; cases hh) (by rw [eT']; rfl)) (fun hh => nomatch hh) (fun _ H3 e3 => ?_)
        have e13 := e12.trans e3
        cases rx with
        | lst hx rxs =>
          rename_i as
          cases ry with
          | lst hy rys =>
          have lx := rxs.length
          have ly := rys.length
          obtain ⟨ok1, ok2⟩ := Bool.and_eq_true_iff.mp (show (decide (ts.length ≤ 1000) && okGL ts) = true from ok)
          have hz := of_decide_eq_true ok1
          refine q_when (b := !decide (as.length = ts.length)) (et_is (et_test (ev_op (ev_lenL (ev_var rfl) (sq_of (e13 _ _ hx))) (ev_lenL (ev_var rfl) (sq_of (e13 _ _ hy))) rv_iNe)) (by rw [lx, ly, show decide (((as.length : Nat) : Int) = ((ts.length : Nat) : Int)) = decide (as.length = ts.length) from decide_eq_decide.mpr (by omega)])) (fun hh H4 e4 => s_ret ev_c fun H5 e5 => ?_) (fun hh H4 e4 => ?_)
          · have q := k H5 ((e13.trans e4).trans e5)
            rw [show sameD (.lst ts) (.lst as) = false by show (decide (as.length = ts.length) && sameL ts as) = false; rw [show decide (as.length = ts.length) = false by simpa using hh]; rfl] at q
            exact q
          have hl : as.length = ts.length := by simpa using hh
          rw [show sameD (.lst ts) (.lst as) = sameL ts as by show (decide (as.length = ts.length) && sameL ts as) = _; rw [decide_eq_true hl, Bool.true_and]] at k
          have e14 := e13.trans e4
          exact s_ret (same_seq (.inl (sq_of (e14 _ _ hx))) (.inl (sq_of (e14 _ _ hy))) (rxs.mono e14) (rys.mono e14) hl hz ok2 (Nat.lt_of_succ_lt_succ hd) rfl rfl rfl) fun H5 e5 => k H5 (e14.trans e5)
        | _ => cases hh
      | tup ts =>
        refine q_when (b := true) (et_is (et_or (a := isB "list" (.tup ts)) (b := true) (et_B (ev_isi tys_list (ev_var rfl) ry)) fun _ => et_is (et_B (ev_isi tys_tuple (ev_var rfl) ry)) (by rw [eT']; rfl)) (Bool.or_true _)) (fun _ H1 e1 => ?_) (fun hh => nomatch hh)
        refine q_when (b := false) (et_is (et_and (a := isB "list" (.tup ts)) (b := false) (et_B (ev_isi tys_list (ev_var rfl) (ry.mono e1))) fun hh => by rw [eL] at hh; cases hh) (Bool.and_false _)) (fun hh => nomatch hh) (fun _ H2 e2 => ?_)
        have e12 := e1.trans e2
        refine q_when (b := !isTup a) (et_is (et_and (a := isB "tuple" (.tup ts)) (b := !isTup a) (et_B (ev_isi tys_tuple (ev_var rfl) (ry.mono e12))) fun hh => et_is (et_not (et_B (ev_isi tys_tuple (ev_var rfl) (rx.mono e12)))) (by rw [aT'])) (by rw [eT']; rfl)) (fun hh H3 e3 => s_ret ev_c fun H4 e4 => ?_) (fun hh H3 e3 => ?_)
        · have q := k H4 ((e12.trans e3).trans e4)
          rw [show sameD (.tup ts) a = false by cases a <;> first | rfl | cases hh] at q
          exact q
        have e13 := e12.trans e3
        cases rx with
        | tup hx rxs =>
          rename_i as
          cases ry with
          | tup hy rys =>
          have lx := rxs.length
          have ly := rys.length
          obtain ⟨ok1, ok2⟩ := Bool.and_eq_true_iff.mp (show (decide (ts.length ≤ 1000) && okGL ts) = true from ok)
          have hz := of_decide_eq_true ok1
          refine q_when (b := !decide (as.length = ts.length)) (et_is (et_test (ev_op (ev_lenT (ev_var rfl) (ex_t e13 hx)) (ev_lenT (ev_var rfl) (ex_t e13 hy)) rv_iNe)) (by rw [lx, ly, show decide (((as.length : Nat) : Int) = ((ts.length : Nat) : Int)) = decide (as.length = ts.length) from decide_eq_decide.mpr (by omega)])) (fun hh H4 e4 => s_ret ev_c fun H5 e5 => ?_) (fun hh H4 e4 => ?_)
          · have q := k H5 ((e13.trans e4).trans e5)
            rw [show sameD (.tup ts) (.tup as) = false by show (decide (as.length = ts.length) && sameL ts as) = false; rw [show decide (as.length = ts.length) = false by simpa using hh]; rfl] at q
            exact q
          have hl : as.length = ts.length := by simpa using hh
          rw [show sameD (.tup ts) (.tup as) = sameL ts as by show (decide (as.length = ts.length) && sameL ts as) = _; rw [decide_eq_true hl, Bool.true_and]] at k
          have e14 := e13.trans e4
          exact s_ret (same_seq (.inr (ex_t e14 hx)) (.inr (ex_t e14 hy)) (rxs.mono e14) (rys.mono e14) hl hz ok2 (Nat.lt_of_succ_lt_succ hd) rfl rfl rfl) fun H5 e5 => k H5 (e14.trans e5)
        | _ => cases hh
      | non =>
        refine q_when (b := false) (et_is (et_or (et_B (ev_isi tys_list (ev_var rfl) ry)) fun _ => et_B (ev_isi tys_tuple (ev_var rfl) ry)) (by rw [eL, eT']; rfl)) (fun hh => nomatch hh) (fun _ H1 e1 => ?_)
        cases ry
        refine q_when (b := true) (et_test (ev_op (ev_var rfl) ev_c rv_isN)) (fun _ H2 e2 => s_ret (v := .bl (sameD .non a)) (ev_is (ev_op (ev_var rfl) ev_c rv_isN) ?_) fun H3 e3 => k H3 ((e1.trans e2).trans e3)) (fun hh => nomatch hh)
        congr 1
        cases rx <;> first | rfl | exact decide_eq_false fun q => nomatch q
      | str z0 =>
        refine q_when (b := false) (et_is (et_or (et_B (ev_isi tys_list (ev_var rfl) ry)) fun _ => et_B (ev_isi tys_tuple (ev_var rfl) ry)) (by rw [eL, eT']; rfl)) (fun hh => nomatch hh) (fun _ H1 e1 => ?_)
        cases ry
        refine q_when (b := false) (et_test (ev_op (ev_var rfl) ev_c rv_isN)) (fun hh => nomatch hh) (fun _ H2 e2 => ?_)
        refine q_when (b := true) (et_is (et_B (ev_isi tys_str (ev_var rfl) (.str z0))) (by rw [eS]; rfl)) (fun _ H3 e3 => ?_) (fun hh => nomatch hh)
        have e13 := (e1.trans e2).trans e3
        refine s_ret (v := .bl (sameD (.str z0) a)) (ev_is (ev_andV (a := isStr a) (b := sameD (.str z0) a) (ev_is (ev_isi tys_str (ev_var rfl) (rx.mono e13)) (by rw [aS])) fun hh => ?_) ?_) fun H4 e4 => k H4 (e13.trans e4)
        · cases rx <;> first | exact ev_op (ev_var rfl) (ev_var rfl) rv_sEq | cases hh
        · cases a <;> first | rfl | exact Bool.false_and _ | exact Bool.true_and _
      | bl b0 =>
        refine q_when (b := false) (et_is (et_or (et_B (ev_isi tys_list (ev_var rfl) ry)) fun _ => et_B (ev_isi tys_tuple (ev_var rfl) ry)) (by rw [eL, eT']; rfl)) (fun hh => nomatch hh) (fun _ H1 e1 => ?_)
        cases ry
        refine q_when (b := false) (et_test (ev_op (ev_var rfl) ev_c rv_isN)) (fun hh => nomatch hh) (fun _ H2 e2 => ?_)
        refine q_when (b := false) (et_is (et_B (ev_isi tys_str (ev_var rfl) (.bl b0))) (by rw [eS]; rfl)) (fun hh => nomatch hh) (fun _ H3 e3 => ?_)
        refine q_when (b := true) (et_is (et_B (ev_isi tys_bool (ev_var rfl) (.bl b0))) (by rw [eB]; rfl)) (fun _ H4 e4 => ?_) (fun hh => nomatch hh)
        have e14 := ((e1.trans e2).trans e3).trans e4
        refine s_ret (v := .bl (sameD (.bl b0) a)) (ev_is (ev_andV (a := isBool a) (b := sameD (.bl b0) a) (ev_is (ev_isi tys_bool (ev_var rfl) (rx.mono e14)) (by rw [aB])) fun hh => ?_) ?_) fun H5 e5 => k H5 (e14.trans e5)
        · cases rx <;> first | exact ev_op (ev_var rfl) (ev_var rfl) rv_bEq | cases hh
        · cases a <;> first | rfl | exact Bool.false_and _ | exact Bool.true_and _
      | int i0 =>
        refine q_when (b := false) (et_is (et_or (et_B (ev_isi tys_list (ev_var rfl) ry)) fun _ => et_B (ev_isi tys_tuple (ev_var rfl) ry)) (by rw [eL, eT']; rfl)) (fun hh => nomatch hh) (fun _ H1 e1 => ?_)
        cases ry
        refine q_when (b := false) (et_test (ev_op (ev_var rfl) ev_c rv_isN)) (fun hh => nomatch hh) (fun _ H2 e2 => ?_)
        refine q_when (b := false) (et_is (et_B (ev_isi tys_str (ev_var rfl) (.int i0))) (by rw [eS]; rfl)) (fun hh => nomatch hh) (fun _ H3 e3 => ?_)
        refine q_when (b := false) (et_is (et_B (ev_isi tys_bool (ev_var rfl) (.int i0))) (by rw [eB]; rfl)) (fun hh => nomatch hh) (fun _ H4 e4 => ?_)
        have e14 := ((e1.trans e2).trans e3).trans e4
        refine s_ret (v := .bl (sameD (.int i0) a)) (ev_is (ev_andV (a := isB "int" a) (b := sameD (.int i0) a) (ev_isi tys_int (ev_var rfl) (rx.mono e14)) fun hh => ev_is (ev_andV (a := !isBool a) (b := sameD (.int i0) a) (ev_is (ev_notV (ev_isi tys_bool (ev_var rfl) (rx.mono e14))) (by rw [aB])) fun hh2 => ?_) ?_) ?_) fun H5 e5 => k H5 (e14.trans e5)
        · rw [aI] at hh
          cases rx <;> first | exact ev_op (ev_var rfl) (ev_var rfl) rv_iEq | (simp [isBool] at hh2; done) | (simp [isBool] at hh2 hh; done) | cases hh
        · cases a <;> first | rfl | exact Bool.false_and _ | exact Bool.true_and _
        · rw [aI]
          cases a <;> first | rfl | exact Bool.false_and _ | exact Bool.true_and _
end
end K0
/-! ## LB -/
set_option Elab.async false
set_option linter.all false
set_option maxRecDepth 100000
set_option maxHeartbeats 4000000
namespace K0
open PySem PySem.Spec PyProof.Rows L2 Evl RZ KB
/-! a good statement holds no dict: it is alike to itself -/
mutual
def ndT : Th → Bool
  | .lst ts => ndL ts
  | .tup ts => ndL ts
  | .dic => false
  | _ => true
def ndL : List Th → Bool
  | [] => true
  | t :: ts => ndT t && ndL ts
end
theorem ndL_of : ∀ {ts : List Th}, (∀ t ∈ ts, ndT t = true) → ndL ts = true
  | [], _ => rfl
  | t :: ts, h => by
    show (ndT t && ndL ts) = true
    rw [h t List.mem_cons_self, ndL_of fun u hu => h u (List.mem_cons_of_mem _ hu)]
    rfl
mutual
theorem okG_nd : ∀ t : Th, szB t = true → ndT t = true → okG t = true
  | .lst ts, h, h2 => by
    obtain ⟨h3, h4⟩ := Bool.and_eq_true_iff.mp (show (decide (ts.length ≤ 1000) && szL ts) = true from h)
    show (decide (ts.length ≤ 1000) && okGL ts) = true
    rw [h3, okGL_nd ts h4 h2]
    rfl
  | .tup ts, h, h2 => by
    obtain ⟨h3, h4⟩ := Bool.and_eq_true_iff.mp (show (decide (ts.length ≤ 1000) && szL ts) = true from h)
    show (decide (ts.length ≤ 1000) && okGL ts) = true
    rw [h3, okGL_nd ts h4 h2]
    rfl
  | .dic, _, h => by cases h
  | .non, _, _ => rfl
  | .str _, _, _ => rfl
  | .bl _, _, _ => rfl
  | .int _, _, _ => rfl
theorem okGL_nd : ∀ ts : List Th, szL ts = true → ndL ts = true → okGL ts = true
  | [], _, _ => rfl
  | t :: ts, h, h2 => by
    obtain ⟨h3, h4⟩ := Bool.and_eq_true_iff.mp (show (szB t && szL ts) = true from h)
    obtain ⟨h5, h6⟩ := Bool.and_eq_true_iff.mp (show (ndT t && ndL ts) = true from h2)
    show (okG t && okGL ts) = true
    rw [okG_nd t h3 h5, okGL_nd ts h4 h6]
    rfl
end
theorem part_nd {n : Nat} (ih : ∀ t, exprB n t = true → ndT t = true) {k : Str} {u : Th} (hk : k ∈ exprKinds) (h : partB (exprB n) k u = true) : ndT u = true := by
  have flat0 : (∀ ts, u ≠ .lst ts) → (∀ ts, u ≠ .tup ts) → u ≠ .dic → ndT u = true := fun h1 h2 h3 => by
    cases u with
    | lst ts => exact absurd rfl (h1 ts)
    | tup ts => exact absurd rfl (h2 ts)
    | dic => exact absurd rfl h3
    | _ => rfl
  simp only [exprKinds, List.mem_cons, List.not_mem_nil, or_false] at hk
  rcases hk with rfl | rfl | rfl | rfl | rfl | rfl | rfl
  · exact ih u h
  · have h : exprsB (exprB n) 4 u = true := h
    cases u with
    | lst ts =>
      have h2 := (Bool.and_eq_true_iff.mp (show (decide (ts.length ≤ 4) && ts.all (exprB n)) = true from h)).2
      exact ndL_of fun t ht => ih t (List.all_eq_true.mp h2 t ht)
    | _ => cases h
  · have h : rowsB (exprB n) u = true := h
    cases u with
    | lst ts =>
      have h2 := (Bool.and_eq_true_iff.mp (show (decide (ts.length ≤ 4) && ts.all (rowB (exprB n))) = true from h)).2
      exact ndL_of fun t ht => by
        have h3 := List.all_eq_true.mp h2 t ht
        cases t with
        | tup us =>
          have h4 := (Bool.and_eq_true_iff.mp (show (decide (us.length = 2) && us.all (exprB n)) = true from h3)).2
          exact ndL_of fun t ht => ih t (List.all_eq_true.mp h4 t ht)
        | _ => cases h3
    | _ => cases h
  · have h : isNumT u = true := h
    exact flat0 (fun ts q => by subst q; cases h) (fun ts q => by subst q; cases h) (fun q => by subst q; cases h)
  · have h : isPhraseT u = true := h
    exact flat0 (fun ts q => by subst q; cases h) (fun ts q => by subst q; cases h) (fun q => by subst q; cases h)
  · have h : isNameT u = true := h
    exact flat0 (fun ts q => by subst q; cases h) (fun ts q => by subst q; cases h) (fun q => by subst q; cases h)
  · have h : isSignT u = true := h
    exact flat0 (fun ts q => by subst q; cases h) (fun ts q => by subst q; cases h) (fun q => by subst q; cases h)
theorem expr_nd : ∀ (n : Nat) (t : Th), exprB n t = true → ndT t = true
  | 0, _, h => by cases h
  | n + 1, t, h => by
    obtain ⟨l, ts, e1, rfl, e2, e3⟩ := parts_some (show partsB (exprB n) (t_EXPRESSIONS.lookup (fw t)) t = true from h)
    obtain ⟨w, us, e4, _⟩ := fw_tup rfl e1
    cases e4
    have hk := List.all_eq_true.mp (List.all_eq_true.mp tab_ek _ (lookup_mem e1))
    refine ndL_of fun t ht => ?_
    rcases List.mem_cons.mp ht with rfl | ht
    · rfl
    · obtain ⟨i, hi⟩ := List.getElem?_of_mem ht
      have hil : i < l.length := by
        have := (List.getElem?_eq_some_iff.mp hi).1
        simp only [List.length_cons] at e2
        omega
      have hl : l[i]? = some l[i] := by simp [hil]
      exact part_nd (expr_nd n) (of_decide_eq_true (hk _ (List.getElem_mem hil))) (e3 i l[i] t hl (by simpa using hi))
theorem part_ndS {k : Str} {u : Th} (hk : k ∈ stKinds) (h : partB (exprB 5) k u = true) (hb : ∀ b ∈ blOf1 k u, ndT b = true) : ndT u = true := by
  have e15 := expr_nd 5
  have flat0 : (∀ ts, u ≠ .lst ts) → (∀ ts, u ≠ .tup ts) → u ≠ .dic → ndT u = true := fun h1 h2 h3 => by
    cases u with
    | lst ts => exact absurd rfl (h1 ts)
    | tup ts => exact absurd rfl (h2 ts)
    | dic => exact absurd rfl h3
    | _ => rfl
  have kx : ∀ k, k ∈ exprKinds → partB (exprB 5) k u = true → ndT u = true := fun k h1 h2 => part_nd (n := 5) e15 h1 h2
  simp only [stKinds, List.mem_cons, List.not_mem_nil, or_false] at hk
  rcases hk with rfl | rfl | rfl | rfl | rfl | rfl | rfl | rfl | rfl | rfl
  · exact kx _ (by decide +kernel) h
  · exact kx _ (by decide +kernel) h
  · exact kx _ (by decide +kernel) h
  · have h : isHowT u = true := h
    exact flat0 (fun ts q => by subst q; cases h) (fun ts q => by subst q; cases h) (fun q => by subst q; cases h)
  · rw [p_perh] at h
    exact flat0 (fun ts q => by subst q; cases h) (fun ts q => by subst q; cases h) (fun q => by subst q; cases h)
  · have h : exprsB (exprB 5) 3 u = true := h
    cases u with
    | lst ts =>
      have h2 := (Bool.and_eq_true_iff.mp (show (decide (ts.length ≤ 3) && ts.all (exprB 5)) = true from h)).2
      exact ndL_of fun t ht => e15 t (List.all_eq_true.mp h2 t ht)
    | _ => cases h
  · exact hb u (by unfold blOf1; rw [if_pos rfl]; exact List.mem_singleton.mpr rfl)
  · rw [p_para] at h
    cases u with
    | lst ts =>
      exact ndL_of fun t ht => by
        have h3 : (decide (ts.length ≤ 3) && (ts.all isNameT && decide (dc (ts.map strOf) = ts.length))) = true := h
        have h4 := List.all_eq_true.mp (Bool.and_eq_true_iff.mp (Bool.and_eq_true_iff.mp h3).2).1 t ht
        cases t <;> first | rfl | cases h4
    | _ => cases h
  · rw [p_pexp] at h
    rcases Bool.or_eq_true_iff.mp h with h | h
    · exact flat0 (fun ts q => by subst q; cases h) (fun ts q => by subst q; cases h) (fun q => by subst q; cases h)
    · exact e15 u h
  · rw [p_meth] at h
    cases u with
    | lst ms =>
      obtain ⟨h1, h2⟩ := Bool.and_eq_true_iff.mp (show (decide (ms.length ≤ 4) && (ms.all methodB && decide (dc (ms.map headOf) = ms.length))) = true from h)
      have h3 := (Bool.and_eq_true_iff.mp h2).1
      exact ndL_of fun t ht => by
        have h4 := List.all_eq_true.mp h3 t ht
        have hbm := hb (thirdT t) (by unfold blOf1; rw [if_neg (by decide +kernel), if_pos rfl]; exact List.mem_map.mpr ⟨t, ht, rfl⟩)
        unfold methodB at h4
        split at h4
        · rename_i nm ps b
          have hbm : ndT b = true := hbm
          obtain ⟨h5, h6⟩ := Bool.and_eq_true_iff.mp h4
          have hn : ndT nm = true := by
            cases nm <;> first | rfl | cases h5
          have hps : ndL ps = true := ndL_of fun y hy => by
            have h7 : (decide (ps.length ≤ 3) && (ps.all isNameT && decide (dc (ps.map strOf) = ps.length))) = true := (Bool.and_eq_true_iff.mp h6).1
            have h8 := List.all_eq_true.mp (Bool.and_eq_true_iff.mp (Bool.and_eq_true_iff.mp h7).2).1 y hy
            cases y <;> first | rfl | cases h8
          show (ndT nm && (ndL ps && (ndT b && true))) = true
          rw [hn, hps, hbm]
          rfl
        · cases h4
    | _ => cases h
theorem stmt_nd {t : Th} (h : stmtB t = true) (hb : ∀ b ∈ ofT blOf1 t, ndT b = true) : ndT t = true := by
  obtain ⟨w, l, ts, rfl, hw, hl, hn, hp⟩ := stmt_parts h
  have hbl : ofT blOf1 (.tup (.str w :: ts)) = (l.zip ts).flatMap (fun p => blOf1 p.1 p.2) := by
    show (((t_STATEMENTS.lookup (fw (.tup (.str w :: ts)))).getD []).zip ts).flatMap _ = _
    rw [hw, hl]
    rfl
  have hks := List.all_eq_true.mp (List.all_eq_true.mp tab_sk _ (lk_mem hl))
  show (true && ndL ts) = true
  rw [Bool.true_and]
  exact ndL_of fun u hu => by
    obtain ⟨i, hi⟩ := List.getElem?_of_mem hu
    have hil := (List.getElem?_eq_some_iff.mp hi).1
    have hk : l[i]? = some (l[i]'(by omega)) := List.getElem?_eq_getElem (by omega)
    have hz : (l[i]'(by omega), u) ∈ l.zip ts := List.mem_of_getElem? (i := i) (by rw [List.getElem?_zip_eq_some]; exact ⟨hk, hi⟩)
    exact part_ndS (of_decide_eq_true (hks _ (List.getElem_mem _))) (hp i _ u hk hi) fun b hbb => hb b (by rw [hbl]; exact List.mem_flatMap.mpr ⟨_, hz, hbb⟩)
theorem okS_nd : ∀ {g : Nat} {r : Str} {l : Bool} {t : Th}, OkS g r l t → ndT t = true
  | 0, _, _, _, h => h.elim
  | g + 1, r, l, t, h => stmt_nd h.2.1 fun b hb => by
    obtain ⟨us, rfl, _, hu⟩ := h.2.2.2 b hb
    exact ndL_of fun u hu2 => okS_nd (hu u hu2)
theorem okS_g {g : Nat} {r : Str} {l : Bool} {t : Th} (h : OkS g r l t) : okG t = true := okG_nd t (okS_adm h).sz (okS_nd h)
theorem blk_g {g : Nat} {r : Str} {l : Bool} {ts : List Th} (h : BlkOk g r l ts) : okG (.lst ts) = true := okG_nd _ h.adm.sz (ndL_of fun t ht => okS_nd (h.2 t ht))
/-! each row is a statement of the top or of an earlier row's block -/
def topsK (p : List Nat) : Nat → List Th → List (List Nat × Th)
  | _, [] => []
  | k, t :: ts => (p ++ [k], t) :: topsK p (k + 1) ts
def kidsB (q : List Nat) : Nat → List Th → List (List Nat × Th)
  | _, [] => []
  | n, b :: bs => topsK (q ++ [n]) 0 (elems b) ++ kidsB q (n + 1) bs
def kids (e : List Nat × Th) : List (List Nat × Th) := kidsB e.1 0 (ofT blOf1 e.2)
def Cov : List (List Nat × Th) → List (List Nat × Th) → Prop
  | _, [] => True
  | S, x :: L => x ∈ S ∧ Cov (S ++ kids x) L
theorem Cov.mono : ∀ {L S S' : List (List Nat × Th)}, (∀ x ∈ S, x ∈ S') → Cov S L → Cov S' L
  | [], _, _, _, _ => trivial
  | x :: L, S, S', h, c => ⟨h x c.1, Cov.mono (fun y hy => by
    rcases List.mem_append.mp hy with hy | hy
    · exact List.mem_append_left _ (h y hy)
    · exact List.mem_append_right _ hy) c.2⟩
theorem Cov.app : ∀ {L1 L2 S : List (List Nat × Th)}, Cov S L1 → Cov (S ++ L1.flatMap kids) L2 → Cov S (L1 ++ L2)
  | [], L2, S, _, h => by
    rw [List.flatMap_nil, List.append_nil] at h
    exact h
  | x :: L1, L2, S, c, h => ⟨c.1, Cov.app c.2 (by rw [List.flatMap_cons, ← List.append_assoc] at h; exact h)⟩
structure Rg (T R : List (List Nat × Th)) : Prop where
  cov : ∀ S, (∀ x ∈ T, x ∈ S) → Cov S R
  len : R.length = T.length + (R.flatMap kids).length
  sub : ∀ x ∈ T, x ∈ R
  kid : ∀ w ∈ R, ∀ x ∈ kids w, x ∈ R
theorem Rg.nil : Rg [] [] := ⟨fun _ _ => trivial, rfl, fun _ h => h, fun _ h => (List.not_mem_nil h).elim⟩
theorem Rg.app {T1 T2 R1 R2 : List (List Nat × Th)} (a : Rg T1 R1) (b : Rg T2 R2) : Rg (T1 ++ T2) (R1 ++ R2) := by
  refine ⟨fun S h => (a.cov S fun x hx => h x (List.mem_append_left _ hx)).app ((b.cov S fun x hx => h x (List.mem_append_right _ hx)).mono fun x hx => List.mem_append_left _ hx), ?_, fun x hx => ?_, fun w hw x hx => ?_⟩
  · have h1 := a.len
    have h2 := b.len
    rw [List.flatMap_append, List.length_append, List.length_append, List.length_append]
    omega
  · rcases List.mem_append.mp hx with hx | hx
    · exact List.mem_append_left _ (a.sub x hx)
    · exact List.mem_append_right _ (b.sub x hx)
  · rcases List.mem_append.mp hw with hw | hw
    · exact List.mem_append_left _ (a.kid w hw x hx)
    · exact List.mem_append_right _ (b.kid w hw x hx)
theorem Rg.cons {e : List Nat × Th} {R : List (List Nat × Th)} (a : Rg (kids e) R) : Rg [e] (e :: R) := by
  refine ⟨fun S h => ⟨h e List.mem_cons_self, a.cov _ fun x hx => List.mem_append_right _ hx⟩, ?_, fun x hx => by rw [List.mem_singleton.mp hx]; exact List.mem_cons_self, fun w hw x hx => ?_⟩
  · have := a.len
    rw [List.flatMap_cons, List.length_append, List.length_cons, List.length_singleton]
    omega
  · rcases List.mem_cons.mp hw with rfl | hw
    · exact List.mem_cons_of_mem _ (a.sub x hx)
    · exact List.mem_cons_of_mem _ (a.kid w hw x hx)
theorem rg_I {rec : List Nat → Th → List (List Nat × Th)} {q : List Nat} : ∀ (bs : List Th) (n : Nat), (∀ b ∈ bs, ∀ q, Rg (topsK q 0 (elems b)) (rec q b)) → Rg (kidsB q n bs) (rowsI rec q n bs)
  | [], _, _ => .nil
  | b :: bs, n, h => Rg.app (h b List.mem_cons_self _) (rg_I bs (n + 1) fun b hb => h b (List.mem_cons_of_mem _ hb))
theorem rg_S {rec : List Nat → Th → List (List Nat × Th)} {p : List Nat} : ∀ (ts : List Th) (k : Nat), (∀ t ∈ ts, ∀ b ∈ ofT blOf1 t, ∀ q, Rg (topsK q 0 (elems b)) (rec q b)) → Rg (topsK p k ts) (rowsS rec p k ts)
  | [], _, _ => .nil
  | t :: ts, k, h => Rg.app (T1 := [(p ++ [k], t)]) (R1 := (p ++ [k], t) :: rowsI rec (p ++ [k]) 0 (ofT blOf1 t)) (Rg.cons (rg_I _ 0 (h t List.mem_cons_self))) (rg_S ts (k + 1) fun u hu => h u (List.mem_cons_of_mem _ hu))
theorem rg_G : ∀ (g : Nat) (r : Str) (l : Bool) (p : List Nat) (ts : List Th), BlkOk g r l ts → Rg (topsK p 0 ts) (rowsG g p ts)
  | 0, r, l, p, ts, h => by
    cases ts with
    | nil => exact .nil
    | cons t ts => exact (h.2 t List.mem_cons_self).elim
  | g + 1, r, l, p, ts, h => rg_S ts 0 fun t ht b hb q => by
    obtain ⟨us, rfl, h1, h2⟩ := (h.2 t ht).2.2.2 b hb
    exact rg_G g _ _ q us ⟨h1, h2⟩
theorem topsK_get {p : List Nat} : ∀ {ts : List Th} {k i : Nat} {t : Th}, ts[i]? = some t → (topsK p k ts)[i]? = some (p ++ [k + i], t)
  | [], _, _, _, h => by simp at h
  | t :: ts, k, 0, u, h => by
    simp at h
    subst h
    rfl
  | t :: ts, k, i + 1, u, h => by
    have := topsK_get (p := p) (ts := ts) (k := k + 1) (i := i) (t := u) (by simpa using h)
    rw [show k + 1 + i = k + (i + 1) by omega] at this
    exact this
theorem topsK_len {p : List Nat} : ∀ (ts : List Th) (k : Nat), (topsK p k ts).length = ts.length
  | [], _ => rfl
  | t :: ts, k => by
    show (topsK p (k + 1) ts).length + 1 = _
    rw [topsK_len ts (k + 1)]
    rfl
def pathsOf (p : List Nat) (n : Nat) : List (List Nat) := (List.range n).map fun k => p ++ [k]
theorem topsK_paths {p : List Nat} (ts : List Th) : (topsK p 0 ts).map (·.1) = pathsOf p ts.length := by
  refine List.ext_getElem? fun i => ?_
  unfold pathsOf
  rw [List.getElem?_map, List.getElem?_map]
  cases h : ts[i]? with
  | none =>
    have := List.getElem?_eq_none_iff.mp h
    rw [List.getElem?_eq_none_iff.mpr (by rw [topsK_len]; exact this), List.getElem?_eq_none_iff.mpr (by simpa using this)]
    rfl
  | some t =>
    have hi := (List.getElem?_eq_some_iff.mp h).1
    rw [topsK_get h, List.getElem?_range hi]
    show some (p ++ [0 + i]) = some (p ++ [i])
    rw [Nat.zero_add]
theorem kidsB_snoc {q : List Nat} : ∀ (bs : List Th) (n : Nat) (b : Th), kidsB q n (bs ++ [b]) = kidsB q n bs ++ topsK (q ++ [n + bs.length]) 0 (elems b)
  | [], n, b => by
    show topsK (q ++ [n]) 0 (elems b) ++ [] = [] ++ topsK (q ++ [n + 0]) 0 (elems b)
    rw [List.append_nil, List.nil_append]
    rfl
  | c :: bs, n, b => by
    show topsK (q ++ [n]) 0 (elems c) ++ kidsB q (n + 1) (bs ++ [b]) = (topsK (q ++ [n]) 0 (elems c) ++ kidsB q (n + 1) bs) ++ _
    rw [kidsB_snoc bs (n + 1) b, List.append_assoc, List.length_cons, show n + 1 + bs.length = n + (bs.length + 1) by omega]
theorem kidsB_take {q : List Nat} {bs : List Th} {j : Nat} {b : Th} (h : bs[j]? = some b) : (kidsB q 0 (bs.take (j + 1))).map (·.1) = (kidsB q 0 (bs.take j)).map (·.1) ++ pathsOf (q ++ [j]) (elems b).length := by
  have hj := (List.getElem?_eq_some_iff.mp h).1
  rw [take_more h, kidsB_snoc, List.map_append, topsK_paths, List.length_take, Nat.min_eq_left (Nat.le_of_lt hj), Nat.zero_add]
theorem kidsB_mem {q : List Nat} : ∀ {bs : List Th} {n j : Nat} {b : Th} {x : List Nat × Th}, bs[j]? = some b → x ∈ topsK (q ++ [n + j]) 0 (elems b) → x ∈ kidsB q n bs
  | [], _, _, _, _, h, _ => by simp at h
  | c :: bs, n, 0, b, x, h, hx => by
    simp at h
    subst h
    exact List.mem_append_left _ hx
  | c :: bs, n, j + 1, b, x, h, hx => List.mem_append_right _ (kidsB_mem (bs := bs) (n := n + 1) (j := j) (by simpa using h) (by rw [show n + 1 + j = n + (j + 1) by omega]; exact hx))
theorem kids_mem {q : List Nat} {u b t : Th} {j k : Nat} (h1 : (ofT blOf1 u)[j]? = some b) (h2 : (elems b)[k]? = some t) : (q ++ [j] ++ [k], t) ∈ kids (q, u) := by
  refine kidsB_mem h1 ?_
  have := List.mem_of_getElem? (topsK_get (p := q ++ [0 + j]) (k := 0) h2)
  rw [Nat.zero_add, Nat.zero_add] at this
  rw [Nat.zero_add]
  exact this
theorem cov_get : ∀ {L S : List (List Nat × Th)} {i : Nat} {e : List Nat × Th}, Cov S (L.drop i) → L[i]? = some e → e ∈ S ∧ Cov (S ++ kids e) (L.drop (i + 1)) := fun {L S i e} c h => by
  have hi := (List.getElem?_eq_some_iff.mp h).1
  have he : L.drop i = e :: L.drop (i + 1) := by
    rw [List.drop_eq_getElem_cons hi]
    congr 1
    exact (List.getElem?_eq_some_iff.mp h).2
  rw [he] at c
  exact c
/-! in reading order -/
theorem lexI : ∀ {p q : List Nat}, lexLt p q → HT.lexLt (p.map fun n => ((n : Nat) : Int)) (q.map fun n => ((n : Nat) : Int)) = true
  | [], [], h => h.elim
  | [], _ :: _, _ => rfl
  | _ :: _, [], h => h.elim
  | a :: as, b :: bs, h => by
    rw [List.map_cons, List.map_cons, HT.lexLt_cons]
    rcases h with h | ⟨rfl, h⟩
    · rw [if_neg (by omega)]
      exact decide_eq_true (by omega)
    · rw [if_pos rfl]
      exact lexI h
theorem rows_lex {ts : List Th} (hb : BlkOk 8 "top" false ts) {i : Nat} {e1 e2 : List Nat × Th} (h1 : (rowsG 8 [] ts)[i]? = some e1) (h2 : (rowsG 8 [] ts)[i + 1]? = some e2) : lexLt e1.1 e2.1 := by
  obtain ⟨q1, u1⟩ := e1
  obtain ⟨q2, u2⟩ := e2
  obtain ⟨p1, e1, g1, _⟩ := rowsG_path 8 "top" false [] ts i q1 u1 hb h1
  obtain ⟨p2, e2, g2, _⟩ := rowsG_path 8 "top" false [] ts (i + 1) q2 u2 hb h2
  rw [List.nil_append] at e1 e2
  subst e1
  subst e2
  exact cnt_lex g1 g2 (Nat.lt_succ_self _) fun q => by
    have q : q1 = q2 := q
    subst q
    have := path_fun _ _ _ _ _ _ _ g1 g2
    omega
end K0
/-! ## KM0 -/
set_option Elab.async false
set_option linter.all false
set_option maxRecDepth 100000
set_option maxHeartbeats 4000000
namespace L2
open PySem PySem.Spec PyProof.Rows
/-- a statement that is never come to -/
theorem ps_dead {X : Cx} {st : Stmt} : PS X st (fun _ _ _ => False) := ⟨fun _ _ _ _ _ _ h => h.elim⟩
/-- len of an own instance -/
def rLenO (C : Addr) (sp : Sp) (E : XK) : List V → Hp → VK → Prop := fun xs H Q => ∃ a dx fs, xs = [.ref a] ∧ H a = some (.ins C dx fs) ∧ sp [.ref a] H (fun v H' => ∃ k : Int, v = .int k ∧ (0 ≤ k ∧ k < 2 ^ 63) ∧ Q (.int k) H') E
theorem call_lenO {X : Cx} {CX : CXT} {n m : Nat} {C f : Addr} {fd : FuncData} {ps : List Str} {sp : Sp} {E : XK} (hr : Room m X.A) (hn : n + 1 ≤ m) (F : FnOk X.prog X.w X.K X.mg X.base CX n f fd ps sp) (M : Meth X.K C "__len__" f) (hb : Binds X.K fd ps []) (hx : Passes CX X E) :
    CallR X (.builtin "len") (rLenO C sp E) := by
  intro pins s σ H xs us Q I r h
  obtain ⟨a, dx, fs, rfl, ha, hsp⟩ := h
  obtain ⟨u, rfl, rx⟩ := vals1 r
  cases rx
  obtain ⟨mA, J, _⟩ := ins_get I.hok ha
  obtain ⟨od, J, _⟩ := J.look
  obtain ⟨m, hF⟩ := I.fr
  have hr' := (hr.mono hn).in1
  refine PySem.W.len_K hF I.ok.mod.kin J M.at_ M.fn ?_
  have e0 : Env0 X.prog X.w X.K X.mg X.base X.A.in1 X.stack s H := I.env0.in1
  have hl := F.len _ _ _ _ hsp
  refine wpAny_call (codeAny_mono (F.run X.A.in1 X.stack s H ⟨[.ref a], []⟩ [.ref a] [.ref a] _ E hr' e0 (by
    have := hb s [.ref a] I.kIn (by simpa using hl)
    simpa using this) (.cons rfl .nil) hsp) fun r s' hq => ?_)
  cases r with
  | error e => exact hx pins σ H s e s' I hq
  | ok fl =>
    cases fl with
    | ret w =>
      obtain ⟨z, H', I', rz, k, ez, hk, q⟩ := I.after hq
      subst ez
      obtain ⟨t, rfl⟩ := rz
      exact ⟨hk, ⟨.int k, H', I'.tok _, ⟨_, rfl⟩, q⟩⟩
    | next => exact False.elim hq
    | brk => exact False.elim hq
    | cont => exact False.elim hq
/-- x[i] of an own instance -/
def rIxO (C : Addr) (sp : Sp) (E : XK) : R2 := fun x y H Q => ∃ a dx fs, x = .ref a ∧ H a = some (.ins C dx fs) ∧ sp [.ref a, y] H Q E
theorem pe_ixO {X : Cx} {CX : CXT} {n m : Nat} {C f : Addr} {fd : FuncData} {ps : List Str} {sp : Sp} {E : XK} {o b : Expr} {pos : Pos} {ta tb : TE} (hr : Room m X.A) (hn : n + 1 ≤ m) (F : FnOk X.prog X.w X.K X.mg X.base CX n f fd ps sp) (M : Meth X.K C "__getitem__" f) (hf : PySem.W.fnIn X.K f = true) (hb : Binds X.K fd ps []) (hx : Passes CX X E)
    (ho : PE X o ta) (hi : PE X b tb) (hs : ∀ o i, subscripted b true o i = runValue (.builtin "lifetime.subscript" ⟨[o, i], []⟩)) : PE X (.Subscript o b pos) (tOp (rIxO C sp E) ta tb) := by
  refine ⟨fun pins s σ H Q I h => ?_⟩
  refine Subscript_ (binT ho hi I h fun v u s2 x y H2 I2 rx ry q => ?_)
  obtain ⟨a, dx, fs, rfl, ha, hsp⟩ := q
  cases rx
  obtain ⟨mA, J, _⟩ := ins_get I2.hok ha
  obtain ⟨od, J, _⟩ := J.look
  obtain ⟨m, hF⟩ := I2.fr
  have hr' := (hr.mono hn).in1
  refine PySem.W.sub_K hF I2.ok.mod.kin J M.at_ hf M.fn ?_ (hs _ _)
  have e0 : Env0 X.prog X.w X.K X.mg X.base X.A.in1 X.stack s2 H2 := I2.env0.in1
  have hl := F.len _ _ _ _ hsp
  refine wpAny_call (codeAny_mono (F.run X.A.in1 X.stack s2 H2 ⟨[.ref a, u], []⟩ [.ref a, u] [.ref a, y] _ E hr' e0 (by
    have := hb s2 [.ref a, u] I2.kIn (by simpa using hl)
    simpa using this) (.cons rfl (.cons ry .nil)) hsp) fun r s' hq => ?_)
  cases r with
  | error e => exact hx pins σ H2 s2 e s' I2 hq
  | ok fl =>
    cases fl with
    | ret w =>
      obtain ⟨z, H', I', rz, q⟩ := I2.after hq
      exact ⟨z, H', I', rz, q⟩
    | next => exact False.elim hq
    | brk => exact False.elim hq
    | cont => exact False.elim hq
end L2
namespace K0
open PySem PySem.Spec PyProof.Rows L2 Evl RZ KB
theorem pe_mto0 {X : Cx} {k j : Nat} {m : Str} {sp : Sp} {pos apos : Pos} {o : Expr} {ta : TE} {C : Addr} {pl : Sem Bool} (c : Mt X.prog X.w X.K X.mg X.base k C m sp) (hr : Room j X.A) (hk : k ≤ j) (he : PE X o ta)
    (ht : eval (.Call (.Attribute o m apos) [] [] pos) X.env = (do
      let ov ← eval o X.env
      standAt apos.atName
      let (f, first) ← holding [ov] (getMethod ov m pl)
      callWith pos f first (backTo pos (starEach [] X.env)) (backToKw pos (keywordEach [] X.env))) := by rfl) :
    PE X (.Call (.Attribute o m apos) [] [] pos) (tMeth C m sp [] E0 ta tNil) := by
  obtain ⟨f, fd, ps, M, F, c, b⟩ := c.ex
  exact pe_meth0 he c M F (hr.mono hk) b .nil pass0 ht
end K0
/-! ## KM1 -/
set_option Elab.async false
set_option linter.all false
set_option maxRecDepth 100000
set_option maxHeartbeats 4000000
namespace K0
open PySem PySem.Spec PyProof.Rows L2 Evl RZ KB
/-! what a program answers -/
def intsB : Th → Bool
  | .tup ts => ts.all isIntT
  | _ => false
def intT : Th → Option Int
  | .int i => some i
  | _ => none
def intsL : List Th → Option (List Int)
  | [] => some []
  | t :: ts => match intT t with
    | some i => match intsL ts with
      | some is => some (i :: is)
      | none => none
    | none => none
def intsO : Th → Option (List Int)
  | .tup ts => intsL ts
  | _ => none
theorem isIntT_eq (t : Th) : isIntT t = (intT t).isSome := by
  cases t <;> rfl
theorem intsL_some : ∀ ts : List Th, (intsL ts).isSome = ts.all isIntT
  | [] => rfl
  | t :: ts => by
    have e : intsL (t :: ts) = (match intT t with
      | some i => (match intsL ts with
        | some is => some (i :: is)
        | none => none)
      | none => none) := rfl
    rw [List.all_cons, isIntT_eq, ← intsL_some ts, e]
    cases intT t with
    | none => rfl
    | some i => cases intsL ts <;> rfl
theorem intsB_eq (t : Th) : intsB t = (intsO t).isSome := by
  cases t with
  | tup ts => exact (intsL_some ts).symm
  | _ => rfl
theorem intsL_pT : ∀ p : List Nat, intsL (p.map fun n => Th.int ((n : Nat) : Int)) = some (p.map fun n => ((n : Nat) : Int))
  | [] => rfl
  | n :: p => by
    rw [List.map_cons]
    unfold intsL
    rw [intsL_pT p]
    rfl
def keyI (is : List Int) : List Key := is.map Sum.inl
theorem keyI_kV (is : List Int) : (keyI is).map kV = is.map V.int := by
  unfold keyI
  rw [List.map_map]
  rfl
theorem keyI_N (p : List Nat) : keyI (p.map fun n => ((n : Nat) : Int)) = keyN p := by
  unfold keyI keyN
  rw [List.map_map]
  rfl
theorem keyI_inj : ∀ {p q : List Int}, keyI p = keyI q → p = q
  | [], [], _ => rfl
  | [], _ :: _, h => by cases h
  | _ :: _, [], h => by cases h
  | a :: p, b :: q, h => by
    have h1 : (Sum.inl a : Key) :: keyI p = Sum.inl b :: keyI q := h
    injection h1 with h2 h3
    injection h2 with h4
    rw [keyI_inj h3, h4]
def inPs (ps : List (List Nat)) (is : List Int) : Bool := ps.any fun p => decide (p.map (fun n => ((n : Nat) : Int)) = is)
theorem val_isSome {W : List Key × V → (List Nat × Th) → Prop} (hW : ∀ kv e, W kv e → kv.1 = keyN e.1) {is : List Int} {kvs : List (List Key × V)} {es : List (List Nat × Th)} (h : Paired W kvs es) : (valV kvs (keyI is)).isSome = inPs (es.map (·.1)) is := by
  induction h with
  | nil => rw [valV_nil]; rfl
  | @cons kv e kvs es hx _ ih =>
    have h1 := hW _ _ hx
    rw [List.map_cons]
    show _ = (decide (e.1.map (fun n => ((n : Nat) : Int)) = is) || inPs (es.map (·.1)) is)
    by_cases h2 : e.1.map (fun n => ((n : Nat) : Int)) = is
    · rw [decide_eq_true h2, Bool.true_or, valV_pos (by rw [h1, ← keyI_N, h2])]
      rfl
    · rw [decide_eq_false h2, Bool.false_or, valV_neg (fun q => h2 (keyI_inj (by rw [keyI_N, ← h1, q]))), ih]
theorem inPs_mem {ps : List (List Nat)} {p : List Nat} (h : p ∈ ps) : inPs ps (p.map fun n => ((n : Nat) : Int)) = true := List.any_eq_true.mpr ⟨p, h, decide_eq_true rfl⟩
/-- a thing is one of these tuples -/
def inPsT (ps : List (List Nat)) (t : Th) : Bool := match intsO t with
  | some is => inPs ps is
  | none => false
theorem inPsT_pT {ps : List (List Nat)} {p : List Nat} (h : p ∈ ps) : inPsT ps (.tup (p.map fun n => Th.int ((n : Nat) : Int))) = true := by
  show (match intsL (p.map fun n => Th.int ((n : Nat) : Int)) with
    | some is => inPs ps is
    | none => false) = true
  rw [intsL_pT]
  exact inPs_mem h
def codesL (rows : List Row) : List (List Nat) := [] :: (allC rows).map (·.1)
def bodL (ts : List Th) : List (List Nat × Th) := ([], .lst ts) :: (allC (surveyT ts).1).map bodE
theorem bodL_codes (ts : List Th) : (bodL ts).map (·.1) = codesL (surveyT ts).1 := by
  unfold bodL codesL
  rw [List.map_cons, List.map_map]
  rfl
theorem codes_nodup {rows : List Row} (nd : (rows.map (·.p)).Nodup) : (codesL rows).Nodup := by
  refine List.nodup_cons.mpr ⟨fun h => ?_, ?_⟩
  · obtain ⟨e, he, e1⟩ := List.mem_map.mp h
    obtain ⟨w, _, hw⟩ := List.mem_flatMap.mp he
    obtain ⟨k, hk⟩ := entC_code hw
    rw [hk] at e1
    simp at e1
  · have key : ∀ i, i ≤ rows.length → ((allC (rows.take i)).map (·.1)).Nodup := fun i => by
      induction i with
      | zero =>
        intro _
        rw [List.take_zero]
        exact List.nodup_nil
      | succ i ih =>
        intro hi
        obtain ⟨w, hw⟩ : ∃ w, rows[i]? = some w := ⟨_, List.getElem?_eq_getElem (by omega)⟩
        rw [allC_take hw, List.map_append]
        refine List.nodup_append.mpr ⟨ih (by omega), ?_, fun a ha b hb => ?_⟩
        · have inner : ∀ j, j ≤ (entC w).length → (((entC w).take j).map (·.1)).Nodup := fun j => by
            induction j with
            | zero =>
              intro _
              rw [List.take_zero]
              exact List.nodup_nil
            | succ j ihj =>
              intro hj
              obtain ⟨e, he⟩ : ∃ e, (entC w)[j]? = some e := ⟨_, List.getElem?_eq_getElem (by omega)⟩
              rw [take_more he, List.map_append]
              refine List.nodup_append.mpr ⟨ihj (by omega), by simp, fun a ha b hb => ?_⟩
              have e1 : e.1 = w.p ++ [j] := by
                unfold entC at he
                rw [List.getElem?_map, List.getElem?_zipIdx] at he
                cases hc : (codC w.t)[j]? with
                | none => rw [hc] at he; cases he
                | some x =>
                  rw [hc] at he
                  rw [← Option.some.inj he]
                  simp
              rw [List.map_cons, List.map_nil, List.mem_singleton] at hb
              rintro rfl
              rw [hb, e1] at ha
              exact code_new2 ha
          have := inner (entC w).length (Nat.le_refl _)
          rw [List.take_of_length_le (Nat.le_refl _)] at this
          exact this
        · rintro rfl
          obtain ⟨e, he, e1⟩ := List.mem_map.mp hb
          obtain ⟨k, hk⟩ := entC_code he
          rw [← e1, hk] at ha
          exact code_new nd hw ha
    have := key rows.length (Nat.le_refl _)
    rw [List.take_of_length_le (Nat.le_refl _)] at this
    exact this
section
variable {P : Program} {w : World} {K : PySem.W.Frag} {mg : Str → Option Value} {base : Heap} {σ : L2.St} {H H' H0 : Hp} {ta tb tc td te tl tv tk ti to ty : TE} {tr : TA} {x y kv v : V} {X0 : XK} {t u : TT} {tu tz : TS} {D : Ends} {g : TG} {R : V → Hp → Prop}
theorem ev_din {d b : Addr} {kvs : List (List Key × V)} {k : List Key} {r : Bool} (hy : Ev ty σ H (.ref b)) (hd : Ev td σ H (.ref d)) (e : H d = some (.dT kvs)) (eb : H b = some (.tup (k.map kV))) (ho : (valV kvs k).isSome = r) : Ev (tDIn ty td) σ H (.bl r) := fun H1 e1 Q q =>
  hy H1 e1 _ fun H2 e2 => hd H2 (e1.trans e2) _ fun H3 e3 => ⟨d, valV kvs k, rfl, .inr ⟨kvs, k, b, .inl (((e1.trans e2).trans e3) _ _ e), rfl, ((e1.trans e2).trans e3) _ _ eb, rfl⟩, by rw [ho]; exact q H3 (e2.trans e3)⟩
theorem ev_dgetT {d b : Addr} {kvs : List (List Key × V)} {k : List Key} (hd : Ev td σ H (.ref d)) (hy : Ev ty σ H (.ref b)) (e : H d = some (.dT kvs)) (eb : H b = some (.tup (k.map kV))) (ho : valV kvs k = some v) : Ev (tDGet td ty) σ H v := fun H1 e1 Q q =>
  hd H1 e1 _ fun H2 e2 => hy H2 (e1.trans e2) _ fun H3 e3 => ⟨d, v, rfl, .inr ⟨kvs, k, b, .inl (((e1.trans e2).trans e3) _ _ e), rfl, ((e1.trans e2).trans e3) _ _ eb, ho.symm⟩, q H3 (e2.trans e3)⟩
theorem f_is_integers (z : Cz w K mg) : Cl P w K mg base 2 "is_integers" (P1 K Adm intsB) := by
  have c_is_integer := f_is_integer (P := P) (base := base) z
  refine cal_of (k := 1) z.fn_is_integers z.glo_is_integers K0.c_is_integers (fun vs H Q E h => ?_) (fun cdv A outer s H vs Q _ hr h => ?_)
  · obtain ⟨_, ⟨x, t, rfl, _⟩, _⟩ := h
    rfl
  · obtain ⟨_, ⟨x, t, rfl, r, sz, rfl⟩, k⟩ := h
    refine ⟨_, (pss_one (ps_ret (pe_and (pe_callB call_isi (by rfl) z.free_isinstance boot_isinstance (pa_cons (pv 0) (pa_cons (pe_bty (T := "tuple") z.free_tuple (by decide +kernel)) pa_nil))) (pe_one (pe_callB (cr_all rfl) (by rfl) z.free_all (by decide +kernel) (pa_cons (pe_lc (own := [("part", 1)]) rfl K0.c_is_integers.nd (pi_tup (pv 0)) (blkOk_by (N := N_is_integers) (sc := defScope s_is_integers) (by decide +kernel)) (fun _ _ _ _ _ => (pg_name (i := 1) K0.c_is_integers.nd rfl (.inl rfl))) (fun _ _ _ _ _ => pts_nil) (fun _ _ _ _ _ => (pe_c c_is_integer hr (by first | decide | omega) (by rfl) (pa_cons (pv 1) pa_nil)))) pa_nil)))))), ?_⟩
    have e1 : isB "tuple" t = isTup t := isB_tuple t
    cases t with
    | tup ts =>
      cases r with
      | tup h rs =>
        rename_i a vs
        have hl := rs.length
        have h2 : intsB (.tup ts) = (isB "tuple" (.tup ts) && (ts.map isIntT).all id) := by
          rw [e1, List.all_map]
          rfl
        rw [h2] at k
        refine s_ret (ev_andV (ev_isi tys_tuple (ev_var rfl) (.tup h rs)) fun _ => ev_all (bs := ts.map isIntT) (el_compT (ev_var rfl) h (by simp [hl]) (by have := sz.tup.1; omega) (fun x => rfl) fun i x y H2 e2 hx hy => ?_)) fun H2 e2 => k H2 e2
        obtain ⟨t, ht, rt⟩ := (rs.mono e2).get hx
        have hy' : y = .bl (isIntT t) := by
          rw [List.getElem?_map, List.getElem?_map, ht] at hy
          exact (Option.some.inj hy).symm
        rw [hy']
        exact ev_p1 (ev_var rfl) rt trivial
    | _ => exact s_ret (ev_is (ev_andV (b := false) (ev_isi tys_tuple (ev_var rfl) r) fun hh => by rw [e1] at hh; cases hh) (by rw [e1]; rfl)) fun H2 e2 => k H2 e2
/-- is_path, is_code: of a program that is told whole -/
def SpIsIn (K : PySem.W.Frag) (f : List Th → List (List Nat)) : Sp := fun vs H Q _ => ∃ a x t H0 ts, vs = [.ref a, x] ∧ PrgF K H0 a ts H ∧ Rep K H x t ∧ Adm t ∧ (∀ b is, x = .ref b → intsO t = some is → H b = some (.tup (is.map V.int))) ∧ ∀ H', Ex H H' → Q (.bl (inPsT (f ts) t)) H'
def pathsL (ts : List Th) : List (List Nat) := (surveyT ts).1.map (·.p)
theorem f_is_path (z : Cz w K mg) : Cl P w K mg base 3 "is_path" (SpIsIn K pathsL) := by
  have c_is_integers := f_is_integers (P := P) (base := base) z
  refine cal_of (k := 2) z.fn_is_path z.glo_is_path K0.c_is_path (fun vs H Q E h => ?_) (fun cdv A outer s H vs Q _ hr h => ?_)
  · obtain ⟨a, x, t, H0, ts, rfl, _⟩ := h
    rfl
  · obtain ⟨a, x, t, H0, ts, rfl, ⟨dx, fs, b, l, h1, ⟨h2, h3, _⟩, _, ⟨dx2, fs2, L, S, R, B, Pm, l0, ys, ss, rs, ps, bs, g1, ⟨g2, g3, _⟩, _, ⟨g4, g5⟩, _⟩, _⟩, r, ad, hb, k⟩ := h
    refine ⟨_, (pss_one (ps_ret (pe_and (pe_c c_is_integers hr (by first | decide | omega) (by rfl) (pa_cons (pv 1) pa_nil)) (pe_one (pe_cmp (pc_din (hu_of hr) (pv 1) (pe_fld (pe_fld (pv 0) rfl) rfl))))))), ?_⟩
    have hev : Ev (tFld K (tFld K (tVar 0) "layout") "statements") (L2.start N_is_path [.ref a, x]) H (.ref S) := ev_fld (ev_fld (ev_var rfl) h1 z.cls_Program z.noat_Program_layout h3) g1 z.cls_Layout z.noat_Layout_statements g3
    have hv := val_isSome (W := EntV K H0 H) (fun _ _ h => h.1) (is := (intsO t).getD []) g5
    rw [List.map_map] at hv
    refine s_ret (ev_is (ev_andV (b := inPsT (pathsL ts) t) (ev_p1 (ev_var rfl) r ad) fun hh => ?_) ?_) fun H1 e1 => k H1 e1
    · rw [intsB_eq] at hh
      cases hi : intsO t with
      | none => rw [hi] at hh; cases hh
      | some is =>
        rw [hi] at hv
        have : ∃ q, x = .ref q := by
          cases t with
          | tup us => cases r; exact ⟨_, rfl⟩
          | _ => cases hi
        obtain ⟨q, rfl⟩ := this
        exact ev_din (ev_var rfl) hev g4 (by rw [keyI_kV]; exact hb q is rfl hi) (by rw [show inPsT (pathsL ts) t = inPs (pathsL ts) is by unfold inPsT; rw [hi]]; exact hv)
    · rw [intsB_eq]
      unfold inPsT
      cases intsO t <;> rfl
theorem f_is_code (z : Cz w K mg) : Cl P w K mg base 3 "is_code" (SpIsIn K fun ts => codesL (surveyT ts).1) := by
  have c_is_integers := f_is_integers (P := P) (base := base) z
  refine cal_of (k := 2) z.fn_is_code z.glo_is_code K0.c_is_code (fun vs H Q E h => ?_) (fun cdv A outer s H vs Q _ hr h => ?_)
  · obtain ⟨a, x, t, H0, ts, rfl, _⟩ := h
    rfl
  · obtain ⟨a, x, t, H0, ts, rfl, ⟨dx, fs, b, l, h1, ⟨h2, h3, _⟩, hbn, ⟨dx2, fs2, L, S, R, B, Pm, l0, ys, ss, rs, ps, bs, g1, ⟨g2, g3, g6, g7, _⟩, _, _, _, ⟨g4, g5⟩, _⟩, _⟩, r, ad, hb, k⟩ := h
    refine ⟨_, (pss_one (ps_ret (pe_and (pe_c c_is_integers hr (by first | decide | omega) (by rfl) (pa_cons (pv 1) pa_nil)) (pe_one (pe_cmp (pc_din (hu_of hr) (pv 1) (pe_fld (pe_fld (pv 0) rfl) rfl))))))), ?_⟩
    have hev : Ev (tFld K (tFld K (tVar 0) "layout") "bodies") (L2.start N_is_code [.ref a, x]) H (.ref B) := ev_fld (ev_fld (ev_var rfl) h1 z.cls_Program z.noat_Program_layout h3) g1 z.cls_Layout z.noat_Layout_bodies g7
    have g5' : Paired (EntV K H0 H) (([], .ref b) :: bs) (bodL ts) := .cons ⟨rfl, hbn⟩ g5
    have hv := val_isSome (W := EntV K H0 H) (fun _ _ h => h.1) (is := (intsO t).getD []) g5'
    rw [bodL_codes] at hv
    refine s_ret (ev_is (ev_andV (b := inPsT (codesL (surveyT ts).1) t) (ev_p1 (ev_var rfl) r ad) fun hh => ?_) ?_) fun H1 e1 => k H1 e1
    · rw [intsB_eq] at hh
      cases hi : intsO t with
      | none => rw [hi] at hh; cases hh
      | some is =>
        rw [hi] at hv
        have : ∃ q, x = .ref q := by
          cases t with
          | tup us => cases r; exact ⟨_, rfl⟩
          | _ => cases hi
        obtain ⟨q, rfl⟩ := this
        exact ev_din (ev_var rfl) hev g4 (by rw [keyI_kV]; exact hb q is rfl hi) (by rw [show inPsT (codesL (surveyT ts).1) t = inPs (codesL (surveyT ts).1) is by unfold inPsT; rw [hi]]; exact hv)
    · rw [intsB_eq]
      unfold inPsT
      cases intsO t <;> rfl
def SpBlockM (K : PySem.W.Frag) : Sp := fun vs H Q _ => ∃ a H0 ts, vs = [.ref a] ∧ PrgF K H0 a ts H ∧ Adm (.lst ts) ∧ dpT (.lst ts) < 60 ∧ ∀ v H', Ex H H' → RepN K H H' v (.lst ts) → Q v H'
theorem f_blockM (z : Cz w K mg) : Mt P w K mg base 62 (progC K) "block" (SpBlockM K) := by
  have c_fresh := f_fresh (P := P) (base := base) z 60
  refine mt_of (k := 61) z.meth_Program_block z.cls_Program z.fn_Program_block K0.c_Program_block (fun vs H Q E h => ?_) (fun cdv A outer s H vs Q _ hr h => ?_)
  · obtain ⟨a, H0, ts, rfl, _⟩ := h
    rfl
  · obtain ⟨a, H0, ts, rfl, ⟨dx, fs, b, l, h1, ⟨h2, h3, _⟩, hbn, _⟩, ad, dp, k⟩ := h
    refine ⟨_, (pss_one (ps_ret (pe_c c_fresh hr (by first | decide | omega) (by rfl) (pa_cons (pe_fld (pv 0) rfl) pa_nil)))), ?_⟩
    exact er_fresh (ev_fld (ev_var rfl) h1 z.cls_Program z.noat_Program__top h2) hbn.rep ad dp H (Ex.refl _) _ fun v H1 e1 r => k v H1 e1 r
def SpListM (K : PySem.W.Frag) (f : List Th → List (List Nat)) : Sp := fun vs H Q _ => ∃ a H0 ts, vs = [.ref a] ∧ PrgF K H0 a ts H ∧ ∀ p ys H', H p = none → Ex H H' → H' p = some (.lst ys) → Paired (PathV H') ys (f ts) → Q (.ref p) H'
theorem f_pathsM (z : Cz w K mg) : Mt P w K mg base 1 (progC K) "paths" (SpListM K pathsL) := by
  refine mt_of (k := 0) z.meth_Program_paths z.cls_Program z.fn_Program_paths K0.c_Program_paths (fun vs H Q E h => ?_) (fun cdv A outer s H vs Q _ hr h => ?_)
  · obtain ⟨a, H0, ts, rfl, _⟩ := h
    rfl
  · obtain ⟨a, H0, ts, rfl, ⟨dx, fs, b, l, h1, ⟨h2, h3, _⟩, _, ⟨dx2, fs2, L, S, R, B, Pm, l0, ys, ss, rs, ps, bs, g1, ⟨g2, g3, _⟩, ⟨g4, g5⟩, _⟩, _⟩, k⟩ := h
    refine ⟨_, (pss_one (ps_ret (pe_callTy call_list_of (by rfl) z.free_list (by decide +kernel) (pa_cons (pe_fld (pe_fld (pv 0) rfl) rfl) pa_nil)))), ?_⟩
    have hev : Ev (tFld K (tFld K (tVar 0) "layout") "order") (L2.start N_Program_paths [.ref a]) H (.ref L) := ev_fld (ev_fld (ev_var rfl) h1 z.cls_Program z.noat_Program_layout h3) g1 z.cls_Layout z.noat_Layout_order g2
    exact el_list hev (sq_of g4) H (Ex.refl _) _ fun p H1 hp e1 h1 => k p ys H1 hp e1 h1 (Paired.mapP g5 fun _ _ q => q.mono e1)
theorem f_codesM (z : Cz w K mg) : Mt P w K mg base 1 (progC K) "codes" (SpListM K fun ts => codesL (surveyT ts).1) := by
  refine mt_of (k := 0) z.meth_Program_codes z.cls_Program z.fn_Program_codes K0.c_Program_codes (fun vs H Q E h => ?_) (fun cdv A outer s H vs Q _ hr h => ?_)
  · obtain ⟨a, H0, ts, rfl, _⟩ := h
    rfl
  · obtain ⟨a, H0, ts, rfl, ⟨dx, fs, b, l, h1, ⟨h2, h3, _⟩, _, ⟨dx2, fs2, L, S, R, B, Pm, l0, ys, ss, rs, ps, bs, g1, ⟨g2, g3, g6, _⟩, _, _, ⟨g4, g5⟩, _⟩, _⟩, k⟩ := h
    refine ⟨_, (pss_one (ps_ret (pe_callTy call_list_of (by rfl) z.free_list (by decide +kernel) (pa_cons (pe_fld (pe_fld (pv 0) rfl) rfl) pa_nil)))), ?_⟩
    have hev : Ev (tFld K (tFld K (tVar 0) "layout") "routines") (L2.start N_Program_codes [.ref a]) H (.ref R) := ev_fld (ev_fld (ev_var rfl) h1 z.cls_Program z.noat_Program_layout h3) g1 z.cls_Layout z.noat_Layout_routines g6
    exact el_list hev (sq_of g4) H (Ex.refl _) _ fun p H1 hp e1 h1 => k p rs H1 hp e1 h1 (Paired.mapP g5 fun _ _ q => q.mono e1)
def SpLenM (K : PySem.W.Frag) : Sp := fun vs H Q _ => ∃ a H0 ts, vs = [.ref a] ∧ PrgF K H0 a ts H ∧ ∀ H', Ex H H' → Q (.int (((surveyT ts).1.length : Nat) : Int)) H'
theorem f_lenM (z : Cz w K mg) : ∃ fd ps, FnOk P w K mg base CX0 1 (He.ma K (progC K) "__len__") fd ps (SpLenM K) ∧ Binds K fd ps [] := by
  obtain ⟨fd, F, b⟩ := z.fn_Program_len
  refine ⟨fd, _, F.ok (k := 0) K0.c_Program_len (fun vs H Q E h => ?_) (fun cdv A outer s H vs Q E hr h => ?_), b⟩
  · obtain ⟨a, H0, ts, rfl, _⟩ := h
    rfl
  · obtain ⟨a, H0, ts, rfl, ⟨dx, fs, b, l, h1, ⟨h2, h3, _⟩, _, ⟨dx2, fs2, L, S, R, B, Pm, l0, ys, ss, rs, ps, bs, g1, ⟨g2, g3, _⟩, ⟨g4, g5⟩, _⟩, _⟩, k⟩ := h
    refine ⟨_, (pss_one (ps_ret (pe_callB call_len_seq (by rfl) z.free_len PySem.boot_len (pa_cons (pe_fld (pe_fld (pv 0) rfl) rfl) pa_nil)))), ?_⟩
    have hev : Ev (tFld K (tFld K (tVar 0) "layout") "order") (L2.start N_Program_len [.ref a]) H (.ref L) := ev_fld (ev_fld (ev_var rfl) h1 z.cls_Program z.noat_Program_layout h3) g1 z.cls_Layout z.noat_Layout_order g2
    exact s_ret (ev_is (ev_lenL hev (sq_of g4)) (by rw [Paired.length g5, List.length_map])) fun H1 e1 => k H1 e1
/-- the statement of a path, the block of a code: where it is one -/
def SpGetM (K : PySem.W.Frag) (f : List Th → List (List Nat × Th)) : Sp := fun vs H Q _ => ∃ a q p t H0 ts, vs = [.ref a, .ref q] ∧ PrgF K H0 a ts H ∧ H q = some (.tup (pV p)) ∧ p.length ≤ 900 ∧ ((surveyT ts).1.map (·.p)).Nodup ∧ (p, t) ∈ f ts ∧ Adm t ∧ dpT t < 60 ∧ ∀ v H', Ex H H' → RepN K H H' v t → Q v H'
theorem rep_path {q : Addr} {p : List Nat} (h : H q = some (.tup (pV p))) : Rep K H (.ref q) (.tup (p.map fun n => Th.int ((n : Nat) : Int))) := by
  have : ∀ p : List Nat, Reps K H (pV p) (p.map fun n => Th.int ((n : Nat) : Int)) := fun p => by
    induction p with
    | nil => exact .nil
    | cons n p ih => exact .cons (.int _) ih
  exact .tup (st_of h) (this p)
theorem adm_path {p : List Nat} (h : p.length ≤ 900) : Adm (.tup (p.map fun n => Th.int ((n : Nat) : Int))) := adm_tup (fun t ht => by
  obtain ⟨n, _, rfl⟩ := List.mem_map.mp ht
  exact ⟨rfl, rfl⟩) (by rw [List.length_map]; omega) (head_ok _)
theorem path_ints {q : Addr} {p : List Nat} (h : H q = some (.tup (pV p))) : ∀ b is, V.ref q = .ref b → intsO (.tup (p.map fun n => Th.int ((n : Nat) : Int))) = some is → H b = some (.tup (is.map V.int)) := fun b is hb hi => by
  have hi : intsL (p.map fun n => Th.int ((n : Nat) : Int)) = some is := hi
  rw [intsL_pT] at hi
  cases hi
  cases hb
  rw [h, List.map_map]
  rfl
def entL (ts : List Th) : List (List Nat × Th) := (surveyT ts).1.map fun w => (w.p, w.t)
theorem ev_isIn {E : XK} {f : List Th → List (List Nat)} {a q : Addr} {p : List Nat} {ts : List Th} (h1 : Ev ta σ H (.ref a)) (h2 : Ev tb σ H (.ref q)) (pr : PrgF K H0 a ts H) (hq : H q = some (.tup (pV p))) (hl : p.length ≤ 900) (hm : p ∈ f ts) : Ev (tCall (SpIsIn K f) [] E (tCons ta (tCons tb tNil))) σ H (.bl true) := fun H1 e Q k =>
  ea_cons h1 (ea_cons h2 ea_nil) H1 e _ fun H2 e2 => ⟨a, .ref q, _, H0, ts, rfl, pr.mono (e.trans e2), rep_path ((e.trans e2) _ _ hq), adm_path hl, path_ints ((e.trans e2) _ _ hq), fun H3 e3 => by
    rw [inPsT_pT hm]
    exact k H3 (e2.trans e3)⟩
theorem f_getM (z : Cz w K mg) : ∃ fd ps, FnOk P w K mg base CX0 62 (He.ma K (progC K) "__getitem__") fd ps (SpGetM K entL) ∧ Binds K fd ps [] := by
  have c_is_path := f_is_path (P := P) (base := base) z
  have c_fresh := f_fresh (P := P) (base := base) z 60
  obtain ⟨fd, F, b⟩ := z.fn_Program_getitem
  refine ⟨fd, _, F.ok (k := 61) K0.c_Program_getitem (fun vs H Q E h => ?_) (fun cdv A outer s H vs Q E hr h => ?_), b⟩
  · obtain ⟨a, q, p, t, H0, ts, rfl, _⟩ := h
    rfl
  · obtain ⟨a, q, p, t, H0, ts, rfl, pr, hq, hl, nd, hm, ad, dp, k⟩ := h
    have pr0 := pr
    obtain ⟨dx, fs, b, l, h1, ⟨h2, h3, _⟩, _, ⟨dx2, fs2, L, S, R, B, Pm, l0, ys, ss, rs, ps, bs, g1, ⟨g2, g3, _⟩, _, ⟨g4, g5⟩, _⟩, _⟩ := pr0
    refine ⟨_, (pss_cons (ps_if (pt_not (pt_val (pe_c c_is_path hr (by first | decide | omega) (by rfl) (pa_cons (pv 0) (pa_cons (pv 1) pa_nil))))) (pss_one ps_dead) pss_nil)
      (pss_one (ps_ret (pe_c c_fresh hr (by first | decide | omega) (by rfl) (pa_cons (pe_dget (hu_of hr) (pe_fld (pe_fld (pv 0) rfl) rfl) (pv 1) (fun _ _ => rfl)) pa_nil))))), ?_⟩
    have hev : Ev (tFld K (tFld K (tVar 0) "layout") "statements") (L2.start N_Program_getitem [.ref a, .ref q]) H (.ref S) := ev_fld (ev_fld (ev_var rfl) h1 z.cls_Program z.noat_Program_layout h3) g1 z.cls_Layout z.noat_Layout_statements g3
    have hmp : p ∈ pathsL ts := by
      obtain ⟨w, hw, e⟩ := List.mem_map.mp hm
      cases e
      exact List.mem_map.mpr ⟨w, hw, rfl⟩
    obtain ⟨v, hv, hW⟩ := val_some (W := EntV K H0 H) (fun _ _ h => h.1) g5 (by rw [List.map_map]; exact nd) hm
    refine q_when (b := false) (et_is (et_not (et_B (ev_isIn (ev_var rfl) (ev_var rfl) pr hq hl hmp))) rfl) (fun hh => nomatch hh) (fun _ H1 e1 => ?_)
    exact er_fresh (ev_dgetT (Ev.mono e1 hev) (ev_var rfl) (e1 _ _ g4) (by rw [keyN_kV]; exact e1 _ _ hq) hv) (hW.2.rep.mono e1) ad dp H1 (Ex.refl _) _ fun v H2 e2 r => k v H2 (e1.trans e2) (r.base (Dm.of e1))
theorem f_bodyM (z : Cz w K mg) : Mt P w K mg base 62 (progC K) "body" (SpGetM K bodL) := by
  have c_is_code := f_is_code (P := P) (base := base) z
  have c_fresh := f_fresh (P := P) (base := base) z 60
  refine mt_of (k := 61) z.meth_Program_body z.cls_Program z.fn_Program_body K0.c_Program_body (fun vs H Q E h => ?_) (fun cdv A outer s H vs Q _ hr h => ?_)
  · obtain ⟨a, q, p, t, H0, ts, rfl, _⟩ := h
    rfl
  · obtain ⟨a, q, p, t, H0, ts, rfl, pr, hq, hl, nd, hm, ad, dp, k⟩ := h
    have pr0 := pr
    obtain ⟨dx, fs, b, l, h1, ⟨h2, h3, _⟩, hbn, ⟨dx2, fs2, L, S, R, B, Pm, l0, ys, ss, rs, ps, bs, g1, ⟨g2, g3, g6, g7, _⟩, _, _, _, ⟨g4, g5⟩, _⟩, _⟩ := pr0
    refine ⟨_, (pss_cons (ps_if (pt_not (pt_val (pe_c c_is_code hr (by first | decide | omega) (by rfl) (pa_cons (pv 0) (pa_cons (pv 1) pa_nil))))) (pss_one ps_dead) pss_nil)
      (pss_one (ps_ret (pe_c c_fresh hr (by first | decide | omega) (by rfl) (pa_cons (pe_dget (hu_of hr) (pe_fld (pe_fld (pv 0) rfl) rfl) (pv 1) (fun _ _ => rfl)) pa_nil))))), ?_⟩
    have hev : Ev (tFld K (tFld K (tVar 0) "layout") "bodies") (L2.start N_Program_body [.ref a, .ref q]) H (.ref B) := ev_fld (ev_fld (ev_var rfl) h1 z.cls_Program z.noat_Program_layout h3) g1 z.cls_Layout z.noat_Layout_bodies g7
    have g5' : Paired (EntV K H0 H) (([], .ref b) :: bs) (bodL ts) := .cons ⟨rfl, hbn⟩ g5
    have hmp : p ∈ codesL (surveyT ts).1 := by
      rw [← bodL_codes]
      exact List.mem_map.mpr ⟨_, hm, rfl⟩
    obtain ⟨v, hv, hW⟩ := val_some (W := EntV K H0 H) (fun _ _ h => h.1) g5' (by rw [bodL_codes]; exact codes_nodup nd) hm
    refine q_when (b := false) (et_is (et_not (et_B (ev_isIn (f := fun ts => codesL (surveyT ts).1) (ev_var rfl) (ev_var rfl) pr hq hl hmp))) rfl) (fun hh => nomatch hh) (fun _ H1 e1 => ?_)
    exact er_fresh (ev_dgetT (Ev.mono e1 hev) (ev_var rfl) (e1 _ _ g4) (by rw [keyN_kV]; exact e1 _ _ hq) hv) (hW.2.rep.mono e1) ad dp H1 (Ex.refl _) _ fun v H2 e2 r => k v H2 (e1.trans e2) (r.base (Dm.of e1))
end
end K0
/-! ## LC -/
set_option Elab.async false
set_option linter.all false
set_option maxRecDepth 100000
set_option maxHeartbeats 4000000
namespace K0
open PySem PySem.Spec PyProof.Rows L2 Evl RZ KB
/-! the codes of a statement are its blocks -/
theorem codC_bl {t : Th} (h : stmtB t = true) (hw : fw t = "def" ∨ fw t = "class") : (codC t).map (·.2) = ofT blOf1 t := by
  obtain ⟨w, l, ts, rfl, hfw, hl, hn, hp⟩ := stmt_parts h
  rw [hfw] at hw
  rcases hw with rfl | rfl
  · have hl2 : l = (["name", "parameters", "block"] : List Str) := (Option.some.inj ((lookS (by decide +kernel)).symm.trans hl)).symm
    subst hl2
    obtain ⟨u0, u1, u2, rfl⟩ := len3 hn
    rw [codC_def rfl rfl, show ofT blOf1 (.tup [.str "def", u0, u1, u2]) = [u2] by kernel_rfl]
    rfl
  · have hl2 : l = (["name", "perhaps an expression", "methods"] : List Str) := (Option.some.inj ((lookS (by decide +kernel)).symm.trans hl)).symm
    subst hl2
    obtain ⟨u0, u1, u2, rfl⟩ := len3 hn
    have hm := part_methods (hp 2 "methods" u2 rfl rfl)
    cases u2 with
    | lst ms =>
      rw [codC_class rfl, show ofT blOf1 (.tup [.str "class", u0, u1, .lst ms]) = ms.map thirdT ++ [] by kernel_rfl, List.map_map, List.append_nil]
      refine List.map_congr_left fun m _ => ?_
      cases m <;> rfl
    | _ => cases hm
theorem codC_no {t : Th} (h1 : ¬ fw t = "def") (h2 : ¬ fw t = "class") : codC t = [] := by
  unfold codC
  rw [if_neg h1, if_neg h2]
theorem path_len {Z : Nat → Str → Bool → Th → Prop} : ∀ (g : Nat) (r : Str) (l : Bool) (path : List Nat) (ts : List Th) (c : Nat), PathTo Z g r l path ts c → path.length + 1 ≤ 2 * g
  | 0, _, _, _, _, _, h => h.elim
  | _ + 1, _, _, [], _, _, h => h.elim
  | g + 1, r, l, [k], ts, c, h => by rw [List.length_singleton]; omega
  | g + 1, r, l, k :: n :: rest, ts, c, h => by
    obtain ⟨hk, hpre, t, us, c', ht, hs, hf, hb, hbl, hr, rfl⟩ := h
    have := path_len g _ _ rest us c' hr
    rw [List.length_cons, List.length_cons]
    omega
theorem rows_ok : ∀ (g : Nat) (r : Str) (l : Bool) (p : List Nat) (ts : List Th), BlkOk g r l ts → ∀ e ∈ rowsG g p ts, ∃ g' r' l', g' ≤ g ∧ OkS g' r' l' e.2
  | 0, _, _, _, _, _ => fun e he => (List.not_mem_nil he).elim
  | g + 1, r, l, p, ts, h => by
    have ih := rows_ok g
    have hI : ∀ (bs : List Th) (q : List Nat) (n : Nat), (∀ b ∈ bs, ∃ r' l' us, b = .lst us ∧ BlkOk g r' l' us) → ∀ e ∈ rowsI (fun p b => rowsG g p (elems b)) q n bs, ∃ g' r' l', g' ≤ g + 1 ∧ OkS g' r' l' e.2 := fun bs q => by
      induction bs with
      | nil => exact fun n _ e he => (List.not_mem_nil he).elim
      | cons b bs ihb =>
        intro n hb e he
        rcases List.mem_append.mp he with he | he
        · obtain ⟨r', l', us, rfl, hu⟩ := hb b List.mem_cons_self
          obtain ⟨g', r2, l2, h1, h2⟩ := ih r' l' _ us hu e he
          exact ⟨g', r2, l2, by omega, h2⟩
        · exact ihb (n + 1) (fun b hb' => hb b (List.mem_cons_of_mem _ hb')) e he
    have hS : ∀ (ts : List Th) (k : Nat), (∀ t ∈ ts, OkS (g + 1) r l t) → ∀ e ∈ rowsS (fun p b => rowsG g p (elems b)) p k ts, ∃ g' r' l', g' ≤ g + 1 ∧ OkS g' r' l' e.2 := fun ts => by
      induction ts with
      | nil => exact fun k _ e he => (List.not_mem_nil he).elim
      | cons t ts iht =>
        intro k ht e he
        rcases List.mem_cons.mp he with rfl | he
        · exact ⟨g + 1, r, l, Nat.le_refl _, ht t List.mem_cons_self⟩
        · rcases List.mem_append.mp he with he | he
          · exact hI _ _ 0 (fun b hb => by
              obtain ⟨us, rfl, h1, h2⟩ := (ht t List.mem_cons_self).2.2.2 b hb
              exact ⟨_, _, us, rfl, h1, h2⟩) e he
          · exact iht (k + 1) (fun u hu => ht u (List.mem_cons_of_mem _ hu)) e he
    exact hS ts 0 h.2
/-- what a row is -/
structure RowI (q : List Nat) (u : Th) : Prop where
  ad : Adm u
  dp : dpT u < 60
  ok : okG u = true
  st : stmtB u = true
  len : q.length ≤ 20
  bl : ∀ b ∈ ofT blOf1 u, ∃ us, b = .lst us ∧ us.length ≤ 12 ∧ Adm b ∧ dpT b < 60 ∧ okG b = true
theorem row_i {ts : List Th} (hb : BlkOk 8 "top" false ts) {q : List Nat} {u : Th} (h : (q, u) ∈ rowsG 8 [] ts) : RowI q u := by
  obtain ⟨g, r, l, hg, ok⟩ := rows_ok 8 "top" false [] ts hb _ h
  obtain ⟨i, hi⟩ := List.getElem?_of_mem h
  obtain ⟨p, e, h1, _⟩ := rowsG_path 8 "top" false [] ts i q u hb hi
  rw [List.nil_append] at e
  subst e
  have hl := path_len _ _ _ _ _ _ h1
  have hd := okS_dp ok
  have ok' : OkS g r l u := ok
  cases g with
  | zero => exact ok'.elim
  | succ g =>
    refine ⟨ok'.1, by have : dpT u ≤ 18 + 4 * (g + 1) := hd; omega, okS_g ok', ok'.2.1, by omega, fun b hbb => ?_⟩
    obtain ⟨us, rfl, h2, h3⟩ := ok'.2.2.2 b hbb
    have hB : BlkOk g (inR (fw u) r) (inL (fw u) l) us := ⟨h2, h3⟩
    refine ⟨us, rfl, h2, hB.adm, ?_, blk_g hB⟩
    show dpL us + 1 < 60
    have := dpL_le fun u hu => okS_dp (h3 u hu)
    omega
theorem cov_at : ∀ {L S : List (List Nat × Th)} {i : Nat} {e : List Nat × Th}, Cov S L → L[i]? = some e → e ∈ S ++ (L.take i).flatMap kids
  | [], _, _, _, _, h => by simp at h
  | x :: L, S, 0, e, c, h => by
    simp at h
    subst h
    exact List.mem_append_left _ c.1
  | x :: L, S, i + 1, e, c, h => by
    have := cov_at (i := i) c.2 (by simpa using h)
    rw [List.append_assoc] at this
    exact this
theorem kidsB_app {q : List Nat} : ∀ (as bs : List Th) (n : Nat), kidsB q n (as ++ bs) = kidsB q n as ++ kidsB q (n + as.length) bs
  | [], bs, n => rfl
  | a :: as, bs, n => by
    show topsK (q ++ [n]) 0 (elems a) ++ kidsB q (n + 1) (as ++ bs) = (topsK (q ++ [n]) 0 (elems a) ++ kidsB q (n + 1) as) ++ _
    rw [kidsB_app as bs (n + 1), List.append_assoc, List.length_cons, show n + 1 + as.length = n + (as.length + 1) by omega]
theorem kidsB_le {q : List Nat} {bs : List Th} {j : Nat} : (kidsB q 0 (bs.take j)).length ≤ (kidsB q 0 bs).length := by
  have : kidsB q 0 bs = kidsB q 0 (bs.take j) ++ kidsB q (0 + (bs.take j).length) (bs.drop j) := by rw [← kidsB_app, List.take_append_drop]
  rw [this, List.length_append]
  omega
theorem rg_le {T R : List (List Nat × Th)} (h : Rg T R) (i : Nat) : T.length + ((R.take i).flatMap kids).length ≤ R.length := by
  have h1 := h.len
  have h2 : (R.flatMap kids).length = ((R.take i).flatMap kids).length + ((R.drop i).flatMap kids).length := by
    rw [← List.length_append, ← List.flatMap_append, List.take_append_drop]
  omega
theorem take_kids {L : List (List Nat × Th)} {i : Nat} {e : List Nat × Th} (h : L[i]? = some e) : (L.take (i + 1)).flatMap kids = (L.take i).flatMap kids ++ kids e := by
  rw [take_more h, List.flatMap_append, List.flatMap_cons, List.flatMap_nil, List.append_nil]
/-! lists of paths -/
def pI (p : List Nat) : PyData := .tuple (p.map fun n => .int ((n : Nat) : Int))
theorem pI_eq (p : List Nat) : pI p = .tuple ((p.map fun n => ((n : Nat) : Int)).map PyData.int) := by
  unfold pI
  rw [List.map_map]
  rfl
theorem pI_lay (p : List Nat) : (pI p).canLay0 = true := by
  rw [pI_eq]
  simp only [PyData.canLay0]
  exact canLayAll_ints _
theorem pI_depth (p : List Nat) : (pI p).depth = 1 := by
  rw [pI_eq]
  simp only [PyData.depth]
  rw [depthAll_ints]
theorem pIs_lay : ∀ ps : List (List Nat), PyData.canLayAll0 (ps.map pI) = true
  | [] => by simp [PyData.canLayAll0]
  | p :: ps => by simp [PyData.canLayAll0, pI_lay p, pIs_lay ps]
theorem pIs_depth : ∀ ps : List (List Nat), PyData.depthAll (ps.map pI) ≤ 1
  | [] => by simp [PyData.depthAll]
  | p :: ps => by
    have h1 := pIs_depth ps
    have h2 := pI_depth p
    simp only [List.map_cons, PyData.depthAll]
    omega
theorem pI_shaped (p : List Nat) : SeqAt.shaped (pI p) = true := by
  have h := pI_depth p
  show ((pI p).canLay0 && decide ((pI p).depth ≤ 64)) = true
  rw [Bool.and_eq_true]
  exact ⟨pI_lay p, decide_eq_true (by omega)⟩
theorem pIs_shaped (ps : List (List Nat)) : SeqAt.shaped (.list (ps.map pI)) = true := by
  have h1 := pIs_depth ps
  have h2 : PyData.depth (.list (ps.map pI)) ≤ 64 := by
    simp only [PyData.depth]
    omega
  show (PyData.canLay0 (.list (ps.map pI)) && decide (PyData.depth (.list (ps.map pI)) ≤ 64)) = true
  rw [Bool.and_eq_true]
  exact ⟨by simp only [PyData.canLay0]; exact pIs_lay ps, decide_eq_true h2⟩
section
variable {P : Program} {w : World} {K : PySem.W.Frag} {mg : Str → Option Value} {base : Heap} {σ : L2.St} {H H' H0 : Hp} {ta tb tc td te tl tv tk ti to ty : TE} {tr : TA} {x y kv v : V} {X0 : XK} {t u : TT} {tu tz : TS} {D : Ends} {g : TG} {R : V → Hp → Prop} {E : XK}
theorem dp_pV (p : List Nat) : DpAll K H (pV p) (p.map fun n => .int ((n : Nat) : Int)) := by
  induction p with
  | nil => exact .nil
  | cons n p ih => exact .cons (.int _) ih
theorem dp_path {q : Addr} {p : List Nat} (h : H q = some (.tup (pV p))) : Dp K H (.ref q) (pI p) := .tup (st_of h) (dp_pV p)
theorem dp_paths {ys : List V} {ps : List (List Nat)} (h : Paired (PathV H) ys ps) : DpAll K H ys (ps.map pI) := by
  induction h with
  | nil => exact .nil
  | cons hx _ ih =>
    obtain ⟨q, rfl, hq⟩ := hx
    exact .cons (dp_path hq) ih
theorem reps_paths {ys : List V} {ps : List (List Nat)} (h : Paired (PathV H) ys ps) : Reps K H ys (ps.map pT) := by
  induction h with
  | nil => exact .nil
  | cons hx _ ih =>
    obtain ⟨q, rfl, hq⟩ := hx
    exact .cons (rep_path hq) ih
theorem okG_paths {ps : List (List Nat)} (h : ps.length ≤ 1000) (hl : ∀ p ∈ ps, p.length ≤ 1000) : okG (.lst (ps.map pT)) = true := by
  show (decide ((ps.map pT).length ≤ 1000) && okGL (ps.map pT)) = true
  rw [decide_eq_true (by rw [List.length_map]; exact h), Bool.true_and]
  refine okGL_all fun t ht => ?_
  obtain ⟨p, hp, rfl⟩ := List.mem_map.mp ht
  show (decide ((p.map fun n => Th.int ((n : Nat) : Int)).length ≤ 1000) && okGL _) = true
  rw [decide_eq_true (by rw [List.length_map]; exact hl p hp), Bool.true_and]
  refine okGL_all fun t ht => ?_
  obtain ⟨n, hn, rfl⟩ := List.mem_map.mp ht
  rfl
theorem dp_pT (ps : List (List Nat)) : dpT (.lst (ps.map pT)) < 60 := by
  have : dpL (ps.map pT) ≤ 1 := dpL_le fun t ht => by
    obtain ⟨p, _, rfl⟩ := List.mem_map.mp ht
    show dpL _ + 1 ≤ 1
    have : dpL (p.map fun n => Th.int ((n : Nat) : Int)) ≤ 0 := dpL_le fun t ht => by
      obtain ⟨n, _, rfl⟩ := List.mem_map.mp ht
      exact Nat.le_refl _
    omega
  show dpL _ + 1 < 60
  omega
theorem PathV.exo {C : Addr} {acc : List V} {p : List Nat} (hC : H C = some (.lst acc)) (e : ExO C H H') (h : PathV H v p) : PathV H' v p := by
  obtain ⟨q, hv, h1⟩ := h
  exact ⟨q, hv, e _ _ (fun zz => by rw [zz, hC] at h1; cases h1) h1⟩
theorem rv_notInP {q D : Addr} {p : List Nat} {ys : List V} {ps : List (List Nat)} (hq : H q = some (.tup (pV p))) (hD : H D = some (.lst ys)) (hp : Paired (PathV H) ys ps) (hm : p ∈ ps) : RV (rNotInD K) (.ref q) (.ref D) H (.bl false) := fun H1 e Q k => by
  refine ⟨pI p, ps.map pI, dp_path (e _ _ hq), .lst (sq_of (e _ _ hD)) (dp_paths (Paired.mapP hp fun _ _ h => h.mono e)), pI_shaped p, pIs_shaped ps, ?_⟩
  have : ((ps.map pI).any fun z => PyData.eqv z (pI p)) = true := List.any_eq_true.mpr ⟨pI p, List.mem_map.mpr ⟨p, hm, rfl⟩, SeqAt.eqv_refl _ (pI_lay p)⟩
  rw [this]
  exact k H1 (Ex.refl _)
theorem rv_ltP {a b : Addr} {p q : List Nat} (ha : H a = some (.tup (pV p))) (hb : H b = some (.tup (pV q))) (h : lexLt p q) : RV (rLtT K) (.ref a) (.ref b) H (.bl true) := fun H1 e Q k => by
  have hp : ∀ p : List Nat, pV p = (p.map fun n => ((n : Nat) : Int)).map V.int := fun p => by
    rw [List.map_map]
    rfl
  refine ⟨a, b, p.map fun n => ((n : Nat) : Int), q.map fun n => ((n : Nat) : Int), rfl, rfl, by rw [← hp]; exact st_of (e _ _ ha), by rw [← hp]; exact st_of (e _ _ hb), ?_⟩
  rw [lexI h]
  exact k H1 (Ex.refl _)
def SpAre (K : PySem.W.Frag) : Sp := Pu fun vs H v => ∃ A ys ps, vs = [.ref A] ∧ H A = some (.lst ys) ∧ Paired (PathV H) ys ps ∧ ps.length ≤ 1000 ∧ (∀ (i : Nat) p q, ps[i]? = some p → ps[i + 1]? = some q → lexLt p q) ∧ v = .bl true
theorem f_are_paths (z : Cz w K mg) : Cl P w K mg base 1 "_law_are_paths" (SpAre K) := by
  refine cal_of (k := 0) z.fn__law_are_paths z.glo__law_are_paths K0.c__law_are_paths (fun vs H Q E h => ?_) (fun cdv A outer s H vs Q _ hr h => ?_)
  · obtain ⟨_, ⟨A, ys, ps, rfl, _⟩, _⟩ := h
    rfl
  · obtain ⟨_, ⟨A, ys, ps, rfl, hA, hp, hz, hlt, rfl⟩, k⟩ := h
    refine ⟨_, (pss_cons (ps_if (pt_not (pt_val (pe_callB call_isi (by rfl) z.free_isinstance boot_isinstance (pa_cons (pv 0) (pa_cons (pe_bty (T := "list") z.free_list (by decide +kernel)) pa_nil))))) (pss_one (ps_ret pe_bl)) pss_nil)
      (pss_cons (ps_for PassesOwn.never rfl (pi_list (pv 0)) (pg_name (i := 1) K0.c__law_are_paths.nd rfl (.inl rfl)) (pss_cons (ps_if (pt_not (pt_val (pe_callB call_isi (by rfl) z.free_isinstance boot_isinstance (pa_cons (pv 1) (pa_cons (pe_bty (T := "tuple") z.free_tuple (by decide +kernel)) pa_nil))))) (pss_one (ps_ret pe_bl)) pss_nil)
      (pss_one (ps_for PassesOwn.never rfl (pi_tup (pv 1)) (pg_name (i := 2) K0.c__law_are_paths.nd rfl (.inl rfl)) (pss_one (ps_if (PW.pt (pw_or (pt_not (pt_val (pe_callB call_isi (by rfl) z.free_isinstance boot_isinstance (pa_cons (pv 2) (pa_cons (pe_bty (T := "int") z.free_int (by decide +kernel)) pa_nil))))) (pw_or1 (pt_val (pe_callB call_isi (by rfl) z.free_isinstance boot_isinstance (pa_cons (pv 2) (pa_cons (pe_bty (T := "bool") z.free_bool (by decide +kernel)) pa_nil))))))) (pss_one (ps_ret pe_bl)) pss_nil))))))
      (pss_cons (ps_for PassesOwn.never rfl (pi_range2 (by rfl) z.free_range (pa_cons pe_int (pa_cons (pe_callB call_len_seq (by rfl) z.free_len PySem.boot_len (pa_cons (pv 0) pa_nil)) pa_nil))) (pg_name (i := 3) K0.c__law_are_paths.nd rfl (.inl rfl)) (pss_one (ps_if (pt_not (pt_cmpR (op_ltT hr.units0) (pe_ix (show IxR _ (rIxL K) from ix_list) (pv 0) (pe_op op_sub (pv 3) pe_int) (fun _ _ => rfl)) (pe_ix (show IxR _ (rIxL K) from ix_list) (pv 0) (pv 3) (fun _ _ => rfl)) (nomark _))) (pss_one (ps_ret pe_bl)) pss_nil)))
      (pss_one (ps_ret pe_bl))))), ?_⟩
    have hl := Paired.length hp
    refine q_when (b := false) (et_is (et_not (et_B (ev_isi tys_list (ev_var rfl) (.lst hA (reps_paths hp))))) (by rw [isB_list]; rfl)) (fun hh => nomatch hh) (fun _ H1 e1 => ?_)
    refine q_forLn (ev_var rfl) (sq_of (e1 _ _ hA)) (fun i σ' H' => (∃ s1 s2, σ' = [some (.ref A), s1, s2, none]) ∧ Ex H H') (fun H2 e2 => ⟨⟨_, _, rfl⟩, e1.trans e2⟩) (fun i σ' H' _ q => sq_of (q.2 _ _ hA)) (fun i x σ' H' hx q => ?_) (fun σ' H' q => ?_)
    · obtain ⟨⟨s1, s2, rfl⟩, e⟩ := q
      obtain ⟨p, hp1, q, rfl, hq⟩ := paired_get hp hx
      refine q_when (b := false) (et_is (et_not (et_B (ev_isi tys_tuple (ev_var rfl) (rep_path (e _ _ hq))))) (by rw [isB_tuple]; rfl)) (fun hh => nomatch hh) (fun _ H2 e2 => ?_)
      refine s_forT (ev_var rfl) (st_of ((e.trans e2) _ _ hq)) (fun j σ' H' => (∃ s2, σ' = [some (.ref A), some (.ref q), s2, none]) ∧ Ex H H') (fun H3 e3 => ⟨⟨_, rfl⟩, (e.trans e2).trans e3⟩) (fun j σ' H' _ q3 => st_of (q3.2 _ _ hq)) (fun j y σ' H' hy q3 => ?_) (fun σ' H' q3 => ?_)
      · obtain ⟨⟨s2, rfl⟩, e3⟩ := q3
        unfold pV at hy
        rw [List.getElem?_map] at hy
        cases hn : p[j]? with
        | none => rw [hn] at hy; cases hy
        | some n =>
          rw [hn] at hy
          have hy : V.int ((n : Nat) : Int) = y := Option.some.inj hy
          subst hy
          show tIfS _ _ _ _ [some (.ref A), some (.ref q), some (.int ((n : Nat) : Int)), none] H'
          refine s_when (b := false) (et_is (et_or (et_not (et_B (ev_isi tys_int (ev_var rfl) (.int _)))) fun _ => et_B (ev_isi tys_bool (ev_var rfl) (.int _))) (by rw [isB_int, isB_bool]; rfl)) (fun hh => nomatch hh) (fun _ H4 e4 => ⟨⟨_, rfl⟩, e3.trans e4⟩)
      · obtain ⟨⟨s2, rfl⟩, e3⟩ := q3
        exact ⟨⟨_, _, rfl⟩, e3⟩
    · obtain ⟨⟨s1, s2, rfl⟩, e⟩ := q
      refine q_forR2 (lo := 1) (n := ((ys.length : Nat) : Int)) (ea_cons ev_c (ea_cons (ev_lenL (ev_var rfl) (sq_of (e _ _ hA))) ea_nil)) (by omega) (fun i σ' H' => (∃ s3, σ' = [some (.ref A), s1, s2, s3]) ∧ Ex H H') (fun H2 e2 => ⟨⟨_, rfl⟩, e.trans e2⟩) (fun i σ' H2 hi q2 => ?_) (fun σ' H2 q2 => ?_)
      · obtain ⟨⟨s3, rfl⟩, e2⟩ := q2
        have hi : i + 1 < ys.length := by omega
        obtain ⟨x1, hx1⟩ : ∃ x, ys[i]? = some x := ⟨_, List.getElem?_eq_getElem (by omega)⟩
        obtain ⟨x2, hx2⟩ : ∃ x, ys[i + 1]? = some x := ⟨_, List.getElem?_eq_getElem hi⟩
        obtain ⟨p1, hp1, q1, rfl, hq1⟩ := paired_get hp hx1
        obtain ⟨p2, hp2, q2, rfl, hq2⟩ := paired_get hp hx2
        refine s_when (b := false) (et_is (et_not (et_test (ev_op (ev_op (ev_var rfl) (ev_is (ev_op (ev_var rfl) ev_c rv_I0) (show V.int _ = .int ((i : Nat) : Int) by congr 1; omega)) (rv_ixL (sq_of (e2 _ _ hA)) (atI_nat hx1))) (ev_op (ev_var rfl) (ev_is (ev_var rfl) (show V.int _ = .int ((i + 1 : Nat) : Int) by congr 1; omega)) (rv_ixL (sq_of (e2 _ _ hA)) (atI_nat hx2))) (rv_ltP (e2 _ _ hq1) (e2 _ _ hq2) (hlt i p1 p2 hp1 hp2))))) rfl) (fun hh => nomatch hh) (fun _ H3 e3 => ⟨⟨_, rfl⟩, e2.trans e3⟩)
      · obtain ⟨⟨s3, rfl⟩, e2⟩ := q2
        exact s_ret ev_c fun H3 e3 => k H3 (e2.trans e3)
theorem er_lcRng {n j : Nat} {vs : List Nat} {ps : List (List Nat)} (hn : Ev ta σ H (.int ((n : Nat) : Int))) (hz : n ≤ 1000) (hl : ps.length = n) (hw : ∀ x, wipe ((wipe σ vs).set j (some x)) vs = wipe σ vs)
    (he : ∀ (i : Nat) (p : List Nat) (H3 : Hp), Ex H H3 → ps[i]? = some p → EvR te ((wipe σ vs).set j (some (.int ((i : Nat) : Int)))) H3 (fun v H' => PathV H' v p)) :
    EvR (tLc (iRng1 (tCons ta tNil)) (gName j) tYes te vs) σ H (fun v H' => ∃ q ys, v = .ref q ∧ H q = none ∧ H' q = some (.lst ys) ∧ Paired (PathV H') ys ps) := fun H0 e Q q =>
  el_rel (n := n) (H := H) (fun i v H' => ∀ p, ps[i]? = some p → PathV H' v p) (fun _ _ _ _ e h p hp => (h p hp).mono e) (fun o acc i v H1 H2 ho eo h p hp => (h p hp).exo ho eo) (by omega) (fun H1 e1 R' q' => hn H1 e1 _ fun H2 e2 => ⟨((n : Nat) : Int), rfl, by omega, by omega, q' _ _ _ H2 e2 (by rw [Int.toNat_natCast]; exact walk_range) (fun _ _ => trivial) fun i x H3 H4 hi e3 hy => by
    obtain ⟨rfl, rfl⟩ := hy
    obtain ⟨p, hp⟩ : ∃ p, ps[i]? = some p := ⟨_, List.getElem?_eq_getElem (by omega)⟩
    refine ⟨Ex.refl _, fun Qc kc => kc _ _ (hw _) (Ex.refl _) ?_⟩
    show EvR te ((wipe σ vs).set j (some (.int ((0 : Int) + (i : Nat))))) H4 _
    rw [Int.zero_add]
    exact (he i p H4 ((e1.trans e2).trans e3) hp).imp fun v' H5 e5 hv' p' hp' => by
      rw [hp] at hp'
      cases hp'
      exact hv'⟩) H0 e Q fun p H1 ys hp e1 h1 hl1 hr => q _ H1 e1 ⟨p, ys, rfl, fresh_back e hp, h1, paired_of (by omega) fun i v pp hv hpp => hr i v hv pp hpp⟩
def SpOfB (K : PySem.W.Frag) : Sp := fun vs H Q _ => ∃ (q : Addr) (p : List Nat) (n : Nat), vs = [.ref q, .int ((n : Nat) : Int)] ∧ H q = some (.tup (pV p)) ∧ n ≤ 1000 ∧ p.length ≤ 900 ∧ ∀ A ys H', H A = none → Ex H H' → H' A = some (.lst ys) → Paired (PathV H') ys (pathsOf p n) → Q (.ref A) H'
theorem pathsOf_len {p : List Nat} {n : Nat} : (pathsOf p n).length = n := by
  unfold pathsOf
  rw [List.length_map, List.length_range]
theorem pathsOf_get {p q : List Nat} {n i : Nat} (h : (pathsOf p n)[i]? = some q) : q = p ++ [i] := by
  have hi := (List.getElem?_eq_some_iff.mp h).1
  rw [pathsOf_len] at hi
  unfold pathsOf at h
  rw [List.getElem?_map, List.getElem?_range hi] at h
  exact (Option.some.inj h).symm
theorem pV_snoc (p : List Nat) (i : Nat) : pV (p ++ [i]) = pV p ++ [V.int ((i : Nat) : Int)] := by
  unfold pV
  rw [List.map_append]
  rfl
theorem er_snoc {q : Addr} {p : List Nat} {i : Nat} (h1 : Ev ta σ H (.ref q)) (hq : H q = some (.tup (pV p))) (hl : p.length ≤ 900) (h2 : Ev tb σ H (.int ((i : Nat) : Int))) : EvR (tOp (rCatA K) ta (tTup (tCons tb tNil))) σ H (fun v H' => PathV H' v (p ++ [i])) :=
  (er_cat h1 (st_of hq) (by unfold pV; rw [List.length_map]; omega) h2).imp fun v H' _ ⟨r, hv, hr⟩ => ⟨r, hv, by rw [hr, pV_snoc]⟩
theorem f_of_block (z : Cz w K mg) : Cl P w K mg base 1 "_law_of_block" (SpOfB K) := by
  refine cal_of (k := 0) z.fn__law_of_block z.glo__law_of_block K0.c__law_of_block (fun vs H Q E h => ?_) (fun cdv A outer s H vs Q _ hr h => ?_)
  · obtain ⟨q, p, n, rfl, _⟩ := h
    rfl
  · obtain ⟨q, p, n, rfl, hq, hn, hl, k⟩ := h
    refine ⟨_, (pss_one (ps_ret (pe_lc (own := [("_law_k", 2)]) rfl K0.c__law_of_block.nd (pi_range1 (by rfl) z.free_range (pa_cons (pv 1) pa_nil)) (blkOk_by (N := N__law_of_block) (sc := defScope s__law_of_block) (by decide +kernel)) (fun _ _ _ _ _ => (pg_name (i := 2) K0.c__law_of_block.nd rfl (.inl rfl))) (fun _ _ _ _ _ => pts_nil) (fun _ _ _ _ _ => (pe_op (show OpR _ _ (rCatA K) from op_catA) (pv 0) (pe_tup (pa_cons (pv 2) pa_nil))))))), ?_⟩
    exact er_lcRng (ps := pathsOf p n) (ev_var rfl) hn pathsOf_len (fun x => rfl) (fun i pp H3 e3 hpp => by
      rw [pathsOf_get hpp]
      exact er_snoc (ev_var rfl) (e3 _ _ hq) hl (ev_var rfl)) H (Ex.refl _) _ fun v H1 e1 ⟨A, ys, hv, hA, h1, hp⟩ => by
      rw [hv]
      exact k A ys H1 hA e1 h1 hp
end
end K0
/-! ## LD -/
set_option Elab.async false
set_option linter.all false
set_option maxRecDepth 100000
set_option maxHeartbeats 8000000
namespace K0
open PySem PySem.Spec PyProof.Rows L2 Evl RZ KB
/-! the calls of the law -/
theorem hu65 {A : Around} {k : Nat} (hr : Room k A) : A.units + 65 < cLine := by
  have := hr.un
  omega
theorem passF {X : Cx} {σ : L2.St} : PassesAt (L2.CX X.prog X.w) X σ E0 := fun _ _ _ _ _ _ ⟨_, _, _, _, _, _, _, _, _, _, _, _, hE⟩ => hE.elim
section
variable {P : Program} {w : World} {K : PySem.W.Frag} {mg : Str → Option Value} {base : Heap} {σ : L2.St} {H H' H0 : Hp} {ta tb tc td te tl tv tk ti to ty : TE} {tr : TA} {x y kv v : V} {X0 : XK} {t u : TT} {tu tz : TS} {D : Ends} {g : TG} {R : V → Hp → Prop} {E : XK} {a : Addr} {ts : List Th}
theorem er_topL {b : Addr} {cs : List Int} {n : Int} {m : Nat} (h : Ev ta σ H (.ref b)) (h2 : Ev tb σ H (.int n)) (h3 : Ev tc σ H (.int ((m : Nat) : Int))) (hb : SqL K H b (cs.map V.int)) (hc : cs.length ≤ 1000) (m1 : 1 ≤ m) (m2 : m ≤ 1000) :
    EvR (tCall (SpTopL K) [] E (tCons ta (tCons tb (tCons tc tNil)))) σ H (fun v H' => ∃ T p s a k ts Hb, v = .ref T ∧ SqT K H' T [.ref p, .ref s] ∧ Hb s ≠ none ∧ Dm Hb H' ∧ RepN K Hb H' (.ref p) (.lst ts) ∧ BlkOk 8 "top" false ts ∧ k + cntL 8 ts ≤ m ∧ ts ≠ [] ∧ SrcAt H' s ⟨a, .int ((k : Nat) : Int)⟩) := fun H1 e Q q =>
  ea_cons h (ea_cons h2 (ea_cons h3 ea_nil)) H1 e _ fun H2 e2 => ⟨b, cs, n, m, rfl, ex_l (e.trans e2) hb, hc, m1, m2, fun T p s a k ts Hb H3 q1 q2 q3 q4 q5 q6 q7 q8 e3 => q _ H3 (e2.trans e3) ⟨T, p, s, a, k, ts, Hb, rfl, q1, q2, q3, q4, q5, q6, q7, q8⟩⟩
theorem er_progF (h : Ev ta σ H x) (r : Rep K H x (.lst ts)) (ad : Adm (.lst ts)) (dp : dpT (.lst ts) < 60) (good : progM (.lst ts) = none) (nd : ((surveyT ts).1.map (·.p)).Nodup) :
    EvR (tMakeS (progC K) (SpProgF K) (fun _ => E0) (tCons ta tNil)) σ H (fun v H' => ∃ a, v = .ref a ∧ H a = none ∧ PrgF K H a ts H') := fun H1 e Q q =>
  ea_cons h ea_nil H1 e _ fun H2 e2 a dx ha hd hne => by
    have e3 : Ex H2 (upd (upd H2 dx (.own a)) a (.ins (progC K) dx [])) := (Ex.new hd).mut ha
    have e02 := e.trans e2
    refine ⟨a, dx, x, .lst ts, H, rfl, upd_same, Dm.of (e02.trans e3), fresh_back e02 ha, r.mono (e02.trans e3), ad, dp, fun _ => ⟨nd, fun H' x4 pf => ⟨rfl, q _ H' (e2.trans fun z u hz => ?_) ⟨a, rfl, fresh_back e02 ha, pf⟩⟩⟩, fun p hp => by rw [good] at hp; cases hp⟩
    have nz : z ≠ a := fun zz => by rw [zz, ha] at hz; cases hz
    exact x4 z u nz (e3 _ _ hz)
/-- a new list of these paths -/
def PLs (H : Hp) (ps : List (List Nat)) (v : V) (H' : Hp) : Prop := ∃ A ys, v = .ref A ∧ H A = none ∧ H' A = some (.lst ys) ∧ Paired (PathV H') ys ps
theorem er_listM {f : List Th → List (List Nat)} {m : Str} (h : Ev ta σ H (.ref a)) (pr : PrgF K H0 a ts H) (hm : m ∈ progNames) : EvR (tMeth (progC K) m (SpListM K f) [] E0 ta tNil) σ H (PLs H (f ts)) := fun H1 e Q q =>
  h H1 e _ fun H2 e2 => by
    have pr2 := pr.mono (e.trans e2)
    have pr3 := pr2
    obtain ⟨dx, fs, b, l, h1, ⟨h2, h3, h4⟩, _⟩ := pr3
    exact ⟨a, dx, fs, rfl, h1, h4 m hm, a, H0, ts, rfl, pr2, fun p ys H3 hp e3 h5 h6 => q _ H3 (e2.trans e3) ⟨p, ys, rfl, fresh_back (e.trans e2) hp, h5, h6⟩⟩
theorem nn_blockM {Hc : Hp} {m : Str} (dm : Dm Hc H) (h : Ev ta σ H (.ref a)) (pr : PrgF K H0 a ts H) (hm : m ∈ progNames) (ad : Adm (.lst ts)) (dp : dpT (.lst ts) < 60) : EnN K Hc (tMeth (progC K) m (SpBlockM K) [] E0 ta tNil) σ H (.lst ts) := fun H1 e Q q =>
  h H1 e _ fun H2 e2 => by
    have pr2 := pr.mono (e.trans e2)
    have pr3 := pr2
    obtain ⟨dx, fs, b, l, h1, ⟨h2, h3, h4⟩, _⟩ := pr3
    exact ⟨a, dx, fs, rfl, h1, h4 m hm, a, H0, ts, rfl, pr2, ad, dp, fun v H3 e3 r => q _ H3 (e2.trans e3) (r.base (dm.trans (Dm.of (e.trans e2))))⟩
theorem nn_bodyM {Hc : Hp} {m : Str} {p : List Nat} {th : Th} (dm : Dm Hc H) (h : Ev ta σ H (.ref a)) (hp : EvR tb σ H (fun v H' => PathV H' v p)) (pr : PrgF K H0 a ts H) (hm : m ∈ progNames) (hl : p.length ≤ 900) (nd : ((surveyT ts).1.map (·.p)).Nodup) (hmem : (p, th) ∈ bodL ts) (ad : Adm th) (dp : dpT th < 60) :
    EnN K Hc (tMeth (progC K) m (SpGetM K bodL) [] E0 ta (tCons tb tNil)) σ H th := fun H1 e Q q =>
  h H1 e _ fun H2 e2 => by
    have pr2 := pr.mono (e.trans e2)
    have pr3 := pr2
    obtain ⟨dx, fs, b, l, h1, ⟨h2, h3, h4⟩, _⟩ := pr3
    refine ⟨a, dx, fs, rfl, h1, h4 m hm, ?_⟩
    unfold tCons tNil
    refine hp H2 (e.trans e2) _ fun v H3 e3 ⟨qa, hv, hq⟩ => ?_
    subst hv
    exact ⟨a, qa, p, th, H0, ts, rfl, pr2.mono e3, hq, hl, nd, hmem, ad, dp, fun v H4 e4 r => q _ H4 ((e2.trans e3).trans e4) (r.base (dm.trans (Dm.of ((e.trans e2).trans e3))))⟩
theorem nn_getM {Hc : Hp} {p : List Nat} {th : Th} (dm : Dm Hc H) (h : Ev ta σ H (.ref a)) (hp : EvR tb σ H (fun v H' => PathV H' v p)) (pr : PrgF K H0 a ts H) (hl : p.length ≤ 900) (nd : ((surveyT ts).1.map (·.p)).Nodup) (hmem : (p, th) ∈ entL ts) (ad : Adm th) (dp : dpT th < 60) :
    EnN K Hc (tOp (rIxO (progC K) (SpGetM K entL) E0) ta tb) σ H th := fun H1 e Q q =>
  h H1 e _ fun H2 e2 => hp H2 (e.trans e2) _ fun v H3 e3 ⟨qa, hv, hq⟩ => by
    subst hv
    have pr2 := pr.mono ((e.trans e2).trans e3)
    have pr3 := pr2
    obtain ⟨dx, fs, b, l, h1, _⟩ := pr3
    exact ⟨a, dx, fs, rfl, h1, a, qa, p, th, H0, ts, rfl, pr2, hq, hl, nd, hmem, ad, dp, fun v H4 e4 r => q _ H4 ((e2.trans e3).trans e4) (r.base (dm.trans (Dm.of ((e.trans e2).trans e3))))⟩
theorem ev_lenO (h : Ev ta σ H (.ref a)) (pr : PrgF K H0 a ts H) : Ev (tCB (rLenO (progC K) (SpLenM K) E0) (tCons ta tNil)) σ H (.int (((surveyT ts).1.length : Nat) : Int)) := fun H1 e Q q =>
  ea_cons h ea_nil H1 e _ fun H2 e2 => by
    have pr2 := pr.mono (e.trans e2)
    have pr3 := pr2
    obtain ⟨dx, fs, b, l, h1, _⟩ := pr3
    exact ⟨a, dx, fs, rfl, h1, a, H0, ts, rfl, pr2, fun H3 e3 => ⟨_, rfl, by have := survey_len ts; omega, q H3 (e2.trans e3)⟩⟩
theorem ev_sameR {th : Th} (h : En K ta σ H th) (h2 : En K tb σ H th) (ok : okG th = true) (dp : dpT th < 60) : Ev (tCall (SpSameG K 60) [] E (tCons ta (tCons tb tNil))) σ H (.bl true) := fun H1 e Q q => by
  unfold tCall tCons tNil
  exact h H1 e _ fun v H2 e2 r => h2 H2 (e.trans e2) _ fun v3 H3 e3 r3 => ⟨.bl true, ⟨v, v3, th, th, rfl, r.mono e3, r3, ok, dp, by rw [sameD_refl th ok]⟩, fun H4 e4 => q H4 ((e2.trans e3).trans e4)⟩
theorem EnN.en {th : Th} (h : EnN K H0 te σ H th) : En K te σ H th := EvR.imp h fun _ _ _ r => r.rep
theorem PLs.en {ps : List (List Nat)} (h : EvR te σ H (PLs H ps)) : En K te σ H (.lst (ps.map pT)) := EvR.imp h fun v H1 e ⟨A, ys, hv, hA, h1, hp⟩ => by
  rw [hv]
  exact .lst h1 (reps_paths hp)
theorem er_ofB {p : List Nat} {n : Nat} (h1 : EvR ta σ H (fun v H' => PathV H' v p)) (h2 : Ev tb σ H (.int ((n : Nat) : Int))) (hn : n ≤ 1000) (hl : p.length ≤ 900) : EvR (tCall (SpOfB K) [] E (tCons ta (tCons tb tNil))) σ H (PLs H (pathsOf p n)) := fun H1 e Q q => by
  unfold tCall tCons tNil
  refine h1 H1 e _ fun v H2 e2 ⟨qa, hv, hq⟩ => h2 H2 (e.trans e2) _ fun H3 e3 => ?_
  subst hv
  exact ⟨qa, p, n, rfl, e3 _ _ hq, hn, hl, fun A ys H4 hA e4 h4 hp => q _ H4 ((e2.trans e3).trans e4) ⟨A, ys, rfl, fresh_back ((e.trans e2).trans e3) hA, h4, hp⟩⟩
theorem er_catL {Dd : Addr} {zs : List V} {ps qs : List (List Nat)} (h1 : Ev ta σ H (.ref Dd)) (hD : H Dd = some (.lst zs)) (hp : Paired (PathV H) zs ps) (h2 : EvR tb σ H (PLs H qs)) (hz : ps.length + qs.length ≤ 1000) : EvR (tOp rCat ta tb) σ H (PLs H (ps ++ qs)) := fun H1 e Q q =>
  h1 H1 e _ fun H2 e2 => h2 H2 (e.trans e2) _ fun v H3 e3 ⟨A, ys, hv, hA, h3, hq⟩ => by
    subst hv
    have e13 := e2.trans e3
    have l1 := Paired.length hp
    have l2 := Paired.length hq
    refine ⟨Dd, A, zs, ys, rfl, rfl, (e.trans e13) _ _ hD, h3, sz_of (by omega), fun p hpn => q _ _ (e13.trans (Ex.new hpn)) ⟨p, zs ++ ys, rfl, fresh_back (e.trans e13) hpn, upd_same, ?_⟩⟩
    exact paired_app (Paired.mapP hp fun _ _ h => h.mono ((e.trans e13).trans (Ex.new hpn))) (Paired.mapP hq fun _ _ h => h.mono (Ex.new hpn))
theorem er_pvar {q : Addr} {p : List Nat} (h : Ev te σ H (.ref q)) (hq : H q = some (.tup (pV p))) : EvR te σ H (fun v H' => PathV H' v p) := (EvR.of h).imp fun v H1 e hv => ⟨q, hv, e _ _ hq⟩
theorem RepN.lst_at {p : Addr} (r : RepN K H0 H (.ref p) (.lst ts)) : ∃ xs, H p = some (.lst xs) ∧ RepsN K H0 H xs ts := by
  cases r with
  | lst _ h rs => exact ⟨_, h, rs⟩
theorem RepsN.len2 {vs : List V} (r : RepsN K H0 H vs ts) : vs.length = ts.length := (RepsN.rep r).length
def SpLaw (K : PySem.W.Frag) : Sp := fun vs H Q _ => ∃ b, ∃ cs : List Int, vs = [.ref b] ∧ SqL K H b (cs.map V.int) ∧ cs.length ≤ 1000 ∧ ∀ H', Q (.bl true) H'
/-- what stands all along: the block, the program, its paths -/
structure LJ (K : PySem.W.Frag) (p a A : Addr) (Hc H : Hp) (ts : List Th) (ys : List V) : Prop where
  blk : RepN K Hc H (.ref p) (.lst ts)
  prg : PrgF K Hc a ts H
  rows : H A = some (.lst ys)
  pth : Paired (PathV H) ys (pathsL ts)
  dm : Dm Hc H
theorem LJ.mono {p A : Addr} {Hc : Hp} {ys : List V} (J : LJ K p a A Hc H ts ys) (e : Ex H H') : LJ K p a A Hc H' ts ys := ⟨J.blk.mono e, J.prg.mono e, e _ _ J.rows, Paired.mapP J.pth fun _ _ h => h.mono e, J.dm.trans (Dm.of e)⟩
theorem LJ.mut {p A C : Addr} {Hc : Hp} {ys xs zs : List V} (nc : Hc C ≠ none) (nCA : C ≠ A) (J : LJ K p a A Hc H ts ys) (hC : H C = some (.lst xs)) : LJ K p a A Hc (upd H C (.lst zs)) ts ys := by
  have eo : ExO C H (upd H C (.lst zs)) := ExO.upd (ExO.of (Ex.refl _))
  exact ⟨J.blk.exo nc hC eo, J.prg.exo nc hC eo, by rw [upd_ne (Ne.symm nCA)]; exact J.rows, Paired.mapP J.pth fun _ _ h => h.exo hC eo, dm_mut J.dm (by rw [hC]; exact fun q => nomatch q)⟩
/-- what is due, the codes so far -/
structure LK (C Dd : Addr) (H : Hp) (cs ds : List (List Nat)) : Prop where
  ne : Dd ≠ C
  due : ∃ zs, H Dd = some (.lst zs) ∧ Paired (PathV H) zs ds
  cod : ∃ cv, H C = some (.lst cv) ∧ Paired (PathV H) cv cs
theorem LK.mono {C Dd : Addr} {cs ds : List (List Nat)} (M : LK C Dd H cs ds) (e : Ex H H') : LK C Dd H' cs ds := by
  obtain ⟨ne, ⟨zs, h1, h2⟩, ⟨cv, h3, h4⟩⟩ := M
  exact ⟨ne, ⟨zs, e _ _ h1, Paired.mapP h2 fun _ _ h => h.mono e⟩, ⟨cv, e _ _ h3, Paired.mapP h4 fun _ _ h => h.mono e⟩⟩
theorem LK.push {C Dd q : Addr} {cs ds : List (List Nat)} {cv : List V} {p : List Nat} (M : LK C Dd H cs ds) (h3 : H C = some (.lst cv)) (h4 : Paired (PathV H) cv cs) (hq : H q = some (.tup (pV p))) : LK C Dd (upd H C (.lst (cv ++ [.ref q]))) (cs ++ [p]) ds := by
  obtain ⟨ne, ⟨zs, h1, h2⟩, _⟩ := M
  have eo : ExO C H (upd H C (.lst (cv ++ [.ref q]))) := ExO.upd (ExO.of (Ex.refl _))
  exact ⟨ne, ⟨zs, by rw [upd_ne ne]; exact h1, Paired.mapP h2 fun _ _ h => h.exo h3 eo⟩, ⟨_, upd_same, Paired.snoc (Paired.mapP h4 fun _ _ h => h.exo h3 eo) (PathV.exo h3 eo ⟨q, rfl, hq⟩)⟩⟩
theorem LK.new {C Dd D2 : Addr} {cs ds ds2 : List (List Nat)} {zs : List V} (M : LK C Dd H cs ds) (e : Ex H H') (hn : H D2 = none) (h : H' D2 = some (.lst zs)) (hp : Paired (PathV H') zs ds2) : LK C D2 H' cs ds2 := by
  obtain ⟨_, _, ⟨cv, h3, h4⟩⟩ := M.mono e
  obtain ⟨_, _, ⟨cv2, h5, _⟩⟩ := M
  exact ⟨(fun q => by rw [q, h5] at hn; cases hn), ⟨zs, h, hp⟩, ⟨cv, h3, h4⟩⟩
end
end K0
/-! ## LE -/
set_option Elab.async false
set_option linter.all false
set_option maxRecDepth 100000
set_option maxHeartbeats 8000000
namespace K0
open PySem PySem.Spec PyProof.Rows L2 Evl RZ KB
/-! codes row by row -/
theorem ent_len {w : Row} (h : stmtB w.t = true) (hw : fw w.t = "def" ∨ fw w.t = "class") : (entC w).length = (ofT blOf1 w.t).length := by
  rw [← codC_bl h hw]
  unfold entC
  rw [List.length_map, List.length_zipIdx, List.length_map]
theorem ent_get {w : Row} {j : Nat} {b : Th} (h : stmtB w.t = true) (hw : fw w.t = "def" ∨ fw w.t = "class") (hb : (ofT blOf1 w.t)[j]? = some b) : ∃ c, (entC w)[j]? = some (w.p ++ [j], c, b) := by
  rw [← codC_bl h hw, List.getElem?_map] at hb
  cases hc : (codC w.t)[j]? with
  | none => rw [hc] at hb; cases hb
  | some c =>
    rw [hc] at hb
    have hb : c.2 = b := Option.some.inj hb
    subst hb
    exact ⟨c.1, entC_get hc⟩
theorem ent_no {w : Row} (h1 : ¬ fw w.t = "def") (h2 : ¬ fw w.t = "class") : entC w = [] := by
  unfold entC
  rw [codC_no h1 h2]
  rfl
theorem bodL_mem {ts : List Th} {i j : Nat} {w : Row} {c b : Th} (hw : (surveyT ts).1[i]? = some w) (h : (entC w)[j]? = some (w.p ++ [j], c, b)) : (w.p ++ [j], b) ∈ bodL ts :=
  List.mem_cons_of_mem _ (List.mem_map.mpr ⟨_, List.mem_flatMap.mpr ⟨w, List.mem_of_getElem? hw, List.mem_of_getElem? h⟩, rfl⟩)
section
variable {P : Program} {w : World} {K : PySem.W.Frag} {mg : Str → Option Value} {base : Heap}
theorem f_law (z : Cz w K mg) {fd : FuncData} (F : FunD K "law" "law" (defArgs s_law) (defBody s_law) (defScope s_law) [] [] (He.fAd K ("law", none)) fd) : FnOk P w K mg base CX0 67 (He.fAd K ("law", none)) fd ["_law_script"] (SpLaw K) := by
  have c__law_top := f_top (P := P) (base := base) z
  have c__law_are_paths := f_are_paths (P := P) (base := base) z
  have c__law_of_block := f_of_block (P := P) (base := base) z
  have c__law_same := f_sameG (P := P) (base := base) z 60
  have c__law_inner := f_inner (P := P) (base := base) z
  have m_paths := f_pathsM (P := P) (base := base) z
  have m_block := f_blockM (P := P) (base := base) z
  have m_codes := f_codesM (P := P) (base := base) z
  have m_body := f_bodyM (P := P) (base := base) z
  obtain ⟨fdP, psP, FP, bP⟩ := f_programF (P := P) (base := base) z
  obtain ⟨fdG, psG, FG, bG⟩ := f_getM (P := P) (base := base) z
  obtain ⟨fdL, psL, FL, bL⟩ := f_lenM (P := P) (base := base) z
  refine F.ok (k := 66) K0.c_law (fun vs H Q E h => ?_) (fun cdv A outer s H vs Q E hr h => ?_)
  · obtain ⟨b, cs, rfl, _⟩ := h
    rfl
  · obtain ⟨b, cs, rfl, hb, hcs, k⟩ := h
    refine Exists.imp (p := fun t => PSs (cxOf CX0 P w K mg base N_law "law" (defScope s_law) (He.fAd K ("law", none)) cdv A outer s H E).nox (defBody s_law) t ∧ t { nx := fun _ H' => Q .non H', rt := Q } (L2.start N_law [.ref b]) H) (fun _ q => ⟨PSs.nox q.1, q.2⟩) ?_
    refine ⟨_, (pss_cons (ps_set (i := 1) K0.c_law.nd rfl (.inl rfl) (pe_c c__law_top hr (by first | decide | omega) (by rfl) (pa_cons (pv 0) (pa_cons pe_int (pa_cons pe_int pa_nil)))))
      (pss_cons (ps_set (i := 2) K0.c_law.nd rfl (.inl rfl) (pe_ix (show IxR _ (rIxT K) from ix_tup) (pv 1) pe_int (fun _ _ => rfl)))
      (pss_cons (ps_set (i := 3) K0.c_law.nd rfl (.inl rfl) (pe_makeS z.mkr_Program FP (hr.mono (by decide)) bP (by rfl) z.glo_Program (fun σ => passF) (pa_cons (pv 2) pa_nil)))
      (pss_cons (ps_set (i := 4) K0.c_law.nd rfl (.inl rfl) (pe_mto0 m_paths hr (by decide) (pv 3) rfl))
      (pss_cons (ps_if (PW.pt (pw_or (pt_not (pt_val (pe_c c__law_are_paths hr (by first | decide | omega) (by rfl) (pa_cons (pv 4) pa_nil)))) (pw_or1 (pt_cmpR op_ne (pe_callB (call_lenO hr (by decide) FL z.meth_Program___len__ bL pass0) (by rfl) z.free_len PySem.boot_len (pa_cons (pv 3) pa_nil)) (pe_callB call_len_seq (by rfl) z.free_len PySem.boot_len (pa_cons (pv 4) pa_nil)) (nomark _))))) (pss_one (ps_ret pe_bl)) pss_nil)
      (pss_cons (ps_set (i := 5) K0.c_law.nd rfl (.inl rfl) (pe_c c__law_of_block hr (by first | decide | omega) (by rfl) (pa_cons (pe_tup pa_nil) (pa_cons (pe_callB call_len_seq (by rfl) z.free_len PySem.boot_len (pa_cons (pv 2) pa_nil)) pa_nil))))
      (pss_cons (ps_set (i := 6) K0.c_law.nd rfl (.inl rfl) (pe_lst (pa_cons (pe_tup pa_nil) pa_nil)))
      (pss_cons (ps_set (i := 7) K0.c_law.nd rfl (.inl rfl) (pe_mto0 m_block hr (by decide) (pv 3) rfl))
      (pss_cons (ps_if (PW.pt (pw_or (pt_not (pt_val (pe_c c__law_same hr (by first | decide | omega) (by rfl) (pa_cons (pv 7) (pa_cons (pv 2) pa_nil))))) (pw_or1 (pt_not (pt_val (pe_c c__law_same hr (by first | decide | omega) (by rfl) (pa_cons (pe_mto m_body hr (by first | decide | omega) (pv 3) (pa_cons (pe_tup pa_nil) pa_nil)) (pa_cons (pv 2) pa_nil)))))))) (pss_one (ps_ret pe_bl)) pss_nil)
      (pss_cons (ps_for PassesOwn.never rfl (pi_list (pv 4)) (pg_name (i := 8) K0.c_law.nd rfl (.inl rfl)) (pss_cons (ps_if (pt_cmpR (op_notInD (hu65 hr)) (pv 8) (pv 5) (by rfl)) (pss_one (ps_ret pe_bl)) pss_nil)
      (pss_cons (ps_set (i := 9) K0.c_law.nd rfl (.inl rfl) (pe_ixO hr (by decide) FG z.meth_Program___getitem__ z.fnin_Program___getitem__ bG pass0 (pv 3) (pv 8) (fun _ _ => rfl)))
      (pss_cons (ps_if (PW.pt (pw_and (pt_cmpR op_eq (pe_callB call_len_seq (by rfl) z.free_len PySem.boot_len (pa_cons (pv 8) pa_nil)) pe_int (nomark _)) (pw_and1 (pt_not (pt_val (pe_c c__law_same hr (by first | decide | omega) (by rfl) (pa_cons (pv 9) (pa_cons (pe_ix (show IxR _ (rIxL K) from ix_list) (pv 2) (pe_ix (show IxR _ (rIxT K) from ix_tup) (pv 8) pe_int (fun _ _ => rfl)) (fun _ _ => rfl)) pa_nil)))))))) (pss_one (ps_ret pe_bl)) pss_nil)
      (pss_cons (ps_set (i := 10) K0.c_law.nd rfl (.inl rfl) (pe_c c__law_inner hr (by first | decide | omega) (by rfl) (pa_cons (pv 9) pa_nil)))
      (pss_one (ps_for PassesOwn.never rfl (pi_range1 (by rfl) z.free_range (pa_cons (pe_callB call_len_seq (by rfl) z.free_len PySem.boot_len (pa_cons (pv 10) pa_nil)) pa_nil)) (pg_name (i := 11) K0.c_law.nd rfl (.inl rfl)) (pss_cons (ps_set (i := 12) K0.c_law.nd rfl (.inl rfl) (pe_op (show OpR _ _ (rCatA K) from op_catA) (pv 8) (pe_tup (pa_cons (pv 11) pa_nil))))
      (pss_cons (ps_set (i := 5) K0.c_law.nd rfl (.inl rfl) (pe_op op_cat (pv 5) (pe_c c__law_of_block hr (by first | decide | omega) (by rfl) (pa_cons (pv 12) (pa_cons (pe_callB call_len_seq (by rfl) z.free_len PySem.boot_len (pa_cons (pe_ix (show IxR _ (rIxL K) from ix_list) (pv 10) (pv 11) (fun _ _ => rfl)) pa_nil)) pa_nil)))))
      (pss_cons (ps_for PassesOwn.never rfl (pi_range1 (by rfl) z.free_range (pa_cons (pe_callB call_len_seq (by rfl) z.free_len PySem.boot_len (pa_cons (pe_ix (show IxR _ (rIxL K) from ix_list) (pv 10) (pv 11) (fun _ _ => rfl)) pa_nil)) pa_nil)) (pg_name (i := 13) K0.c_law.nd rfl (.inl rfl)) (pss_one (ps_if (pt_not (pt_val (pe_c c__law_same hr (by first | decide | omega) (by rfl) (pa_cons (pe_ixO hr (by decide) FG z.meth_Program___getitem__ z.fnin_Program___getitem__ bG pass0 (pv 3) (pe_op (show OpR _ _ (rCatA K) from op_catA) (pv 12) (pe_tup (pa_cons (pv 13) pa_nil))) (fun _ _ => rfl)) (pa_cons (pe_ix (show IxR _ (rIxL K) from ix_list) (pe_ix (show IxR _ (rIxL K) from ix_list) (pv 10) (pv 11) (fun _ _ => rfl)) (pv 13) (fun _ _ => rfl)) pa_nil))))) (pss_one (ps_ret pe_bl)) pss_nil)))
      (pss_one (ps_if (PW.pt (pw_or (pt_cmpR op_eq (pe_ix (show IxR _ (rIxT K) from ix_tup) (pv 9) pe_int (fun _ _ => rfl)) pe_str (nomark _)) (pw_or1 (pt_cmpR op_eq (pe_ix (show IxR _ (rIxT K) from ix_tup) (pv 9) pe_int (fun _ _ => rfl)) pe_str (nomark _))))) (pss_cons (ps_expr (pe_bm PySem.F.plainAttrs_list PySem.F.slot_list_append PySem.F.type_list_append mt_append (pv 6) (pa_cons (pv 12) pa_nil)))
      (pss_one (ps_if (pt_not (pt_val (pe_c c__law_same hr (by first | decide | omega) (by rfl) (pa_cons (pe_mto m_body hr (by first | decide | omega) (pv 3) (pa_cons (pv 12) pa_nil)) (pa_cons (pe_ix (show IxR _ (rIxL K) from ix_list) (pv 10) (pv 11) (fun _ _ => rfl)) pa_nil))))) (pss_one (ps_ret pe_bl)) pss_nil))) pss_nil))))))))))))
      (pss_one (ps_ret (pe_and (pe_cmpR op_eq (pe_callB call_len_seq (by rfl) z.free_len PySem.boot_len (pa_cons (pv 5) pa_nil)) (pe_callB call_len_seq (by rfl) z.free_len PySem.boot_len (pa_cons (pv 4) pa_nil)) (nomark _)) (pe_one (pe_c c__law_same hr (by first | decide | omega) (by rfl) (pa_cons (pe_mto0 m_codes hr (by decide) (pv 3) rfl) (pa_cons (pv 6) pa_nil))))))))))))))))), ?_⟩
    refine q_rasg (er_topL (m := 80) (ev_var rfl) ev_c ev_c hb hcs (by decide) (by decide)) fun v H1 e1 ⟨T, p, s0, a0, kk, ts, Hb, hv, hT, _, dm1, rb, hok, hcnt, hne, _⟩ => ?_
    subst hv
    refine q_asg (ev_ixT (i := 0) (ev_var rfl) hT rfl) fun H2 e2 => ?_
    have dm2 := dm1.trans (Dm.of e2)
    have rb2 := rb.mono e2
    have hcn : cntL 8 ts ≤ 80 := by omega
    have ad : Adm (.lst ts) := hok.adm
    have dp : dpT (.lst ts) < 60 := by
      show dpL ts + 1 < 60
      have := dpL_le fun u hu => okS_dp (hok.2 u hu)
      omega
    have okB : okG (.lst ts) = true := blk_g hok
    have good : progM (.lst ts) = none := prog_good hok (by omega)
    have nd := survey_nodup hok hcn
    have hW := survey_rows hok hcn
    have rg := rg_G 8 "top" false [] ts hok
    generalize hL : rowsG 8 [] ts = L at hW rg
    have hWl : (surveyT ts).1.length = L.length := by rw [← hW, List.length_map]
    have hLl : L.length ≤ 80 := by rw [← hL, rowsG_len]; exact hcn
    have hWe : ∀ (i : Nat) (w : Row), (surveyT ts).1[i]? = some w → L[i]? = some (w.p, w.t) := fun i w hw => by
      rw [← hW, List.getElem?_map, hw]
      rfl
    have hPl : pathsL ts = L.map (·.1) := by
      rw [← hW, List.map_map]
      rfl
    have hPn : (pathsL ts).length = L.length := by rw [hPl, List.length_map]
    have hlex : ∀ (i : Nat) p q, (pathsL ts)[i]? = some p → (pathsL ts)[i + 1]? = some q → lexLt p q := fun i p q h1 h2 => by
      rw [hPl, List.getElem?_map] at h1 h2
      cases g1 : L[i]? with
      | none => rw [g1] at h1; cases h1
      | some e1 =>
        cases g2 : L[i + 1]? with
        | none => rw [g2] at h2; cases h2
        | some e2 =>
          rw [g1] at h1
          rw [g2] at h2
          cases h1
          cases h2
          rw [← hL] at g1 g2
          exact rows_lex hok g1 g2
    have rowI : ∀ q u, (q, u) ∈ L → RowI q u := fun q u h => row_i hok (by rw [hL]; exact h)
    have entM : ∀ q u, (q, u) ∈ L → (q, u) ∈ entL ts := fun q u h => by
      rw [← hW] at h
      obtain ⟨w, h1, h2⟩ := List.mem_map.mp h
      exact List.mem_map.mpr ⟨w, h1, h2⟩
    have hC4 : ∀ i, (allC ((surveyT ts).1.take i)).length ≤ 328 := fun i => by
      unfold allC
      have h4 := flat_len (f := entC) (l := (surveyT ts).1.take i) (c := 4) fun w hw => by
        unfold entC
        rw [List.length_map, List.length_zipIdx]
        exact codC_len (survey_ok ts w (List.mem_of_mem_take hw))
      rw [List.length_take] at h4
      have := survey_len ts
      omega
    refine q_rasg (er_progF (ev_var rfl) rb2.rep ad dp good nd) fun v H3 e3 ⟨a, hv, ha, pf⟩ => ?_
    subst hv
    have pf3 : PrgF K Hb a ts H3 := pf.rebase dm2
    refine q_rasg (er_listM (f := pathsL) (m := "paths") (ev_var rfl) pf3 (by decide)) fun v H4 e4 ⟨A, ys, hv, hA, h4, p4⟩ => ?_
    subst hv
    have hyl := Paired.length p4
    have pf4 := pf3.mono e4
    refine q_when (b := false) (et_is (et_or (et_not (et_B (ev_pu (v := .bl true) (ea_cons (ev_var rfl) ea_nil) fun H5 e5 => ⟨A, ys, pathsL ts, rfl, e5 _ _ h4, Paired.mapP p4 fun _ _ h => h.mono e5, by omega, hlex, rfl⟩))) fun _ => et_test (ev_op (ev_lenO (ev_var rfl) pf4) (ev_lenL (ev_var rfl) (sq_of h4)) rv_iNe)) (by rw [hyl, hPn, hWl, decide_eq_true rfl]; rfl)) (fun hh => nomatch hh) (fun _ H5 e5 => ?_)
    have e25 := (e3.trans e4).trans e5
    have rb5 := rb2.mono e25
    obtain ⟨xs5, hp5, rs5⟩ := rb5.lst_at
    have hxl := rs5.len2
    have htl := hok.1
    refine q_rasg (er_ofB (p := []) (n := ts.length) er_tup0 (ev_is (ev_lenL (ev_var rfl) (sq_of hp5)) (by rw [hxl])) (by omega) (by decide)) fun v H6 e6 ⟨Dd, zs6, hv, hD, h6, p6⟩ => ?_
    subst hv
    refine q_rasg (er_lst1F (xs := []) (eu_tup ea_nil (by decide))) fun v H7 e7 ⟨C, qC, hv, hC, h7, h7q⟩ => ?_
    subst hv
    have pf7 := ((pf4.mono e5).mono e6).mono e7
    have dm7 := dm2.trans (Dm.of ((e25.trans e6).trans e7))
    have rb7 := (rb5.mono e6).mono e7
    refine q_rasg (nn_blockM dm7 (ev_var rfl) pf7 (by decide) ad dp) fun wv H8 e8 rw8 => ?_
    have pf8 := pf7.mono e8
    have rb8 := rb7.mono e8
    have dm8 := dm7.trans (Dm.of e8)
    refine q_when (b := false) (et_is (et_or (et_not (et_B (ev_sameR (en_var rfl rw8.rep) (en_var rfl rb8.rep) okB dp))) fun _ => et_not (et_B (ev_sameR (nn_bodyM (p := []) dm8 (ev_var rfl) er_tup0 pf8 (by decide) (by decide) nd List.mem_cons_self ad dp).en (en_var rfl rb8.rep) okB dp))) rfl) (fun hh => nomatch hh) (fun _ H9 e9 => ?_)
    have e79 := e8.trans e9
    have nDC : Dd ≠ C := fun q => by rw [← q, h6] at hC; cases hC
    have nCA : C ≠ A := fun q => by
      rw [q, (e5.trans e6) _ _ h4] at hC
      cases hC
    generalize hHc : upd Hb C (.lst []) = Hc
    have nc : Hc C ≠ none := by
      rw [← hHc, upd_same]
      exact fun q => nomatch q
    have J9 : LJ K p a A Hc H9 ts ys := ⟨by
      rw [← hHc]
      exact ((rb5.mono e6).avoid hC).mono (e7.trans e79), by
      rw [← hHc]
      exact (((pf4.mono e5).mono e6).avoid hC).mono (e7.trans e79), (((e5.trans e6).trans e7).trans e79) _ _ h4, Paired.mapP p4 fun _ _ h => h.mono (((e5.trans e6).trans e7).trans e79), fun q hq => by
      rw [← hHc]
      by_cases hqC : q = C
      · rw [hqC, e79 _ _ h7] at hq
        cases hq
      · rw [upd_ne hqC]
        exact (dm7.trans (Dm.of e79)) q hq⟩
    have M9 : LK C Dd H9 ([] :: (allC ((surveyT ts).1.take 0)).map (·.1)) ((topsK [] 0 ts ++ (L.take 0).flatMap kids).map (·.1)) := ⟨nDC, ⟨zs6, (e7.trans e79) _ _ h6, by
      rw [List.take_zero, List.flatMap_nil, List.append_nil, topsK_paths]
      exact Paired.mapP p6 fun _ _ h => h.mono (e7.trans e79)⟩, ⟨_, e79 _ _ h7, .cons ⟨qC, rfl, e79 _ _ h7q⟩ .nil⟩⟩
    refine q_forLn (ev_var rfl) (sq_of J9.rows) (fun i σ' H' => ∃ Dd s8 s9 s10 s11 s12 s13, σ' = [some (.ref b), some (.ref T), some (.ref p), some (.ref a), some (.ref A), some (.ref Dd), some (.ref C), some wv, s8, s9, s10, s11, s12, s13] ∧ LJ K p a A Hc H' ts ys ∧ LK C Dd H' ([] :: (allC ((surveyT ts).1.take i)).map (·.1)) ((topsK [] 0 ts ++ (L.take i).flatMap kids).map (·.1))) (fun H10 e10 => ⟨Dd, _, _, _, _, _, _, rfl, J9.mono e10, M9.mono e10⟩) (fun i σ' H' _ hP => by obtain ⟨_, _, _, _, _, _, _, _, J, _⟩ := hP; exact sq_of J.rows) (fun i x σ' H10 hx hP => ?_) (fun σ' H10 hP => ?_)
    · obtain ⟨Dd, s8, s9, s10, s11, s12, s13, rfl, J, M⟩ := hP
      obtain ⟨pp, hpp, qa, rfl, hqa⟩ := paired_get J.pth hx
      unfold pathsL at hpp
      rw [List.getElem?_map] at hpp
      obtain ⟨rw, hrw⟩ : ∃ rw, (surveyT ts).1[i]? = some rw := by
        cases hq : (surveyT ts).1[i]? with
        | none => rw [hq] at hpp; cases hpp
        | some w => exact ⟨w, rfl⟩
      rw [hrw] at hpp
      have hpp : rw.p = pp := Option.some.inj hpp
      subst hpp
      have hLi := hWe i rw hrw
      have hmL := List.mem_of_getElem? hLi
      have I := rowI _ _ hmL
      have hil : i < L.length := (List.getElem?_eq_some_iff.mp hLi).1
      have hcov := cov_at (rg.cov _ fun x h => h) hLi
      have hS1 := rg_le rg (i + 1)
      rw [take_kids hLi, List.length_append] at hS1
      obtain ⟨zs, hDz, pDz⟩ := M.due
      refine q_when (b := false) (et_test (ev_op (ev_var rfl) (ev_var rfl) (rv_notInP hqa hDz pDz (List.mem_map.mpr ⟨_, hcov, rfl⟩)))) (fun hh => nomatch hh) (fun _ H11 e11 => ?_)
      have J11 := J.mono e11
      refine q_rasg (nn_getM (Hc := Hc) J11.dm (ev_var rfl) (er_pvar (ev_var rfl) (e11 _ _ hqa)) J11.prg (by have := I.len; omega) nd (entM _ _ hmL) I.ad I.dp) fun sv H12 e12 rs12 => ?_
      have J12 := J11.mono e12
      have hqa12 := (e11.trans e12) _ _ hqa
      obtain ⟨xs12, hp12, rsb12⟩ := J12.blk.lst_at
      refine q_when (b := false) (et_is (et_and (a := decide ((((pV rw.p).length : Nat) : Int) = 1)) (b := false) (et_test (ev_op (ev_lenT (ev_var rfl) (st_of hqa12)) ev_c rv_iEq)) fun hh => ?_) (Bool.and_false _)) (fun hh => nomatch hh) (fun _ H13 e13 => ?_)
      · have h1 : rw.p.length = 1 := by
          have := of_decide_eq_true hh
          unfold pV at this
          rw [List.length_map] at this
          omega
        obtain ⟨k0, hk0⟩ : ∃ k0, rw.p = [k0] := by
          match hq : rw.p, h1 with
          | [k0], _ => exact ⟨k0, rfl⟩
        have hk : ts[k0]? = some rw.t := by
          have hLi' := hLi
          rw [← hL] at hLi'
          obtain ⟨path, e, g1, g2⟩ := rowsG_path 8 "top" false [] ts i _ _ hok hLi'
          rw [List.nil_append, hk0] at e
          subst e
          obtain ⟨_, _, t2, ht2, _, _⟩ := g1
          have : atT [k0] ts = ts[k0]? := rfl
          rw [this] at g2
          exact g2
        obtain ⟨xk, hxk, rxk⟩ := rsb12.getT hk
        refine et_is (et_not (et_B (ev_sameR (en_var rfl rs12.rep) (en_ev (ev_op (ev_var rfl) (ev_ixT (i := 0) (v := .int ((k0 : Nat) : Int)) (ev_var rfl) (st_of hqa12) (by rw [hk0]; rfl)) (rv_ixL (sq_of hp12) (atI_nat hxk))) rxk.rep) I.ok I.dp))) rfl
      have J13 := J12.mono e13
      have rs13 := rs12.mono e13
      refine q_rasg (nn_inner (ev_var rfl) J13.dm rs13 I.st) fun iv H14 e14 ri14 => ?_
      have J14 := J13.mono e14
      have rs14 := rs13.mono e14
      have M14 := ((M.mono e11).mono e12).mono (e13.trans e14)
      have hqa14 := (e13.trans e14) _ _ hqa12
      obtain ⟨ia, hia⟩ : ∃ ia, iv = .ref ia := by cases ri14; exact ⟨_, rfl⟩
      subst hia
      obtain ⟨wd, l, us0, hst, hfw, hl0, hlen0, _⟩ := stmt_parts I.st
      obtain ⟨sa, hsa⟩ : ∃ sa, sv = .ref sa := by
        rw [hst] at rs14
        cases rs14
        exact ⟨_, rfl⟩
      subst hsa
      generalize hbs : ofT blOf1 rw.t = bs at ri14
      have hbl := I.bl
      rw [hbs] at hbl
      have hkids : kids (rw.p, rw.t) = kidsB rw.p 0 bs := by rw [← hbs]; rfl
      rw [hkids] at hS1
      have hbn : bs.length ≤ 1000 := by
        have := (stmt_adm I.ad I.st).2.2.1
        rw [hbs] at this
        omega
      obtain ⟨ixs, hix, rix⟩ := ri14.lst_at
      have hixl := rix.len2
      refine s_forR1 (n := ((bs.length : Nat) : Int)) (ea_cons (ev_is (ev_lenL (ev_var rfl) (sq_of hix)) (by rw [hixl])) ea_nil) (by omega) (fun j σ' H' => ∃ Dd s11 s12 s13, σ' = [some (.ref b), some (.ref T), some (.ref p), some (.ref a), some (.ref A), some (.ref Dd), some (.ref C), some wv, some (.ref qa), some (.ref sa), some (.ref ia), s11, s12, s13] ∧ LJ K p a A Hc H' ts ys ∧ LK C Dd H' ([] :: (allC ((surveyT ts).1.take i)).map (·.1) ++ ((entC rw).take j).map (·.1)) ((topsK [] 0 ts ++ (L.take i).flatMap kids).map (·.1) ++ (kidsB rw.p 0 (bs.take j)).map (·.1)) ∧ RepN K Hc H' (.ref sa) rw.t ∧ RepN K Hc H' (.ref ia) (.lst bs) ∧ H' qa = some (.tup (pV rw.p))) (fun H15 e15 => ⟨Dd, _, _, _, rfl, J14.mono e15, by
        rw [List.take_zero, List.take_zero]
        show LK C Dd H15 ([] :: (allC ((surveyT ts).1.take i)).map (·.1) ++ []) (_ ++ [])
        rw [List.append_nil, List.append_nil]
        exact M14.mono e15, rs14.mono e15, ri14.mono e15, e15 _ _ hqa14⟩) (fun j σ' H15 hj hP => ?_) (fun σ' H15 hP => ?_)
      · obtain ⟨Dd, s11, s12, s13, rfl, J, M, rs, ri, hqa⟩ := hP
        have hj : j < bs.length := by omega
        obtain ⟨bj, hbj⟩ : ∃ bj, bs[j]? = some bj := ⟨_, List.getElem?_eq_getElem hj⟩
        obtain ⟨us, rfl, hul, adb, dpb, okb⟩ := hbl bj (List.mem_of_getElem? hbj)
        have hIl := I.len
        refine q_rasg (er_snoc (ev_var rfl) hqa (by omega) (ev_var rfl)) fun pv H16 e16 ⟨pa, hpv, hpa⟩ => ?_
        subst hpv
        have J16 := J.mono e16
        have ri16 := ri.mono e16
        have rs16 := rs.mono e16
        have M16 := M.mono e16
        obtain ⟨iys, hiy, riy⟩ := ri16.lst_at
        obtain ⟨yj, hyj, ryj⟩ := riy.getT hbj
        obtain ⟨ja, hja⟩ : ∃ ja, yj = .ref ja := by cases ryj; exact ⟨_, rfl⟩
        subst hja
        obtain ⟨jxs, hjx, rjx⟩ := ryj.lst_at
        have hjl := rjx.len2
        have evj : ∀ {σ : L2.St} {H' : Hp}, Ex H16 H' → σ[10]? = some (some (.ref ia)) → σ[11]? = some (some (.int ((j : Nat) : Int))) → Ev (tOp (rIxL K) (tVar 10) (tVar 11)) σ H' (.ref ja) := fun e h1 h2 => ev_op (ev_var h1) (ev_var h2) (rv_ixL (sq_of (e _ _ hiy)) (atI_nat hyj))
        obtain ⟨zs, hDz, pDz⟩ := M16.due
        have hsz : (kidsB rw.p 0 (bs.take (j + 1))).length ≤ (kidsB rw.p 0 bs).length := kidsB_le
        have hkt := kidsB_take (q := rw.p) hbj
        have hkl : (kidsB rw.p 0 (bs.take (j + 1))).length = (kidsB rw.p 0 (bs.take j)).length + us.length := by
          have := congrArg List.length hkt
          rw [List.length_append, List.length_map, List.length_map, pathsOf_len] at this
          exact this
        refine q_rasg (er_catL (ev_var rfl) hDz pDz (er_ofB (n := us.length) (er_pvar (ev_var rfl) hpa) (ev_is (ev_lenL (evj (Ex.refl _) rfl rfl) (sq_of hjx)) (by rw [hjl])) (by omega) (by rw [List.length_append, List.length_singleton]; omega)) (by
          rw [List.length_append, List.length_map, List.length_map, List.length_append, pathsOf_len]
          omega)) fun v H17 e17 ⟨D2, zs2, hv, hD2, h17, p17⟩ => ?_
        subst hv
        have M17 := M16.new e17 hD2 h17 p17
        have J17 := J16.mono e17
        refine q_forR1 (n := ((us.length : Nat) : Int)) (ea_cons (ev_is (ev_lenL (evj e17 rfl rfl) (sq_of (e17 _ _ hjx))) (by rw [hjl])) ea_nil) (by omega) (fun m σ' H' => (∃ s13, σ' = [some (.ref b), some (.ref T), some (.ref p), some (.ref a), some (.ref A), some (.ref D2), some (.ref C), some wv, some (.ref qa), some (.ref sa), some (.ref ia), some (.int ((j : Nat) : Int)), some (.ref pa), s13]) ∧ Ex H17 H') (fun H18 e18 => ⟨⟨_, rfl⟩, e18⟩) (fun m σ' H18 hm hP => ?_) (fun σ' H18 hP => ?_)
        · obtain ⟨⟨s13, rfl⟩, e18⟩ := hP
          have hm : m < us.length := by omega
          obtain ⟨um, hum⟩ : ∃ um, us[m]? = some um := ⟨_, List.getElem?_eq_getElem hm⟩
          obtain ⟨xm, hxm, rxm⟩ := rjx.getT hum
          have e1618 := e17.trans e18
          have hkm : (rw.p ++ [j] ++ [m], um) ∈ L := rg.kid _ hmL _ (kids_mem (b := .lst us) (by rw [hbs]; exact hbj) hum)
          have Ik := rowI _ _ hkm
          have J18 := J17.mono e18
          refine s_when (b := false) (et_is (et_not (et_B (ev_sameR (nn_getM (Hc := Hc) (p := rw.p ++ [j] ++ [m]) J18.dm (ev_var rfl) (er_snoc (ev_var rfl) (e1618 _ _ hpa) (by rw [List.length_append, List.length_singleton]; omega) (ev_var rfl)) J18.prg (by have := Ik.len; omega) nd (entM _ _ hkm) Ik.ad Ik.dp).en (en_ev (ev_op (evj e1618 rfl rfl) (ev_var rfl) (rv_ixL (sq_of (e1618 _ _ hjx)) (atI_nat hxm))) (rxm.rep.mono e1618)) Ik.ok Ik.dp))) rfl) (fun hh => nomatch hh) (fun _ H19 e19 => ⟨⟨_, rfl⟩, e18.trans e19⟩)
        · obtain ⟨⟨s13, rfl⟩, e18⟩ := hP
          have J18 := J17.mono e18
          have M18 := M17.mono e18
          have rs18 := (rs16.mono e17).mono e18
          have ri18 := (ri16.mono e17).mono e18
          have e1618 := e17.trans e18
          have hdue : (topsK [] 0 ts ++ (L.take i).flatMap kids).map (·.1) ++ (kidsB rw.p 0 (bs.take j)).map (·.1) ++ pathsOf (rw.p ++ [j]) us.length = (topsK [] 0 ts ++ (L.take i).flatMap kids).map (·.1) ++ (kidsB rw.p 0 (bs.take (j + 1))).map (·.1) := by
            rw [List.append_assoc, hkt]
            rfl
          rw [hdue] at M18
          have hsT : ∃ vs, SqT K H18 sa (.str wd :: vs) := by
            have r := rs18
            rw [hst] at r
            cases r with
            | tup h rs =>
              cases rs with
              | cons r0 rs =>
                cases r0
                exact ⟨_, h⟩
          obtain ⟨svs, hsT⟩ := hsT
          refine s_when (b := decide (wd = "def") || decide (wd = "class")) (et_or (et_test (ev_op (ev_ixT (i := 0) (ev_var rfl) hsT rfl) ev_c rv_sEq)) fun _ => et_test (ev_op (ev_ixT (i := 0) (ev_var rfl) hsT rfl) ev_c rv_sEq)) (fun hh H19 e19 => ?_) (fun hh H19 e19 => ?_)
          · have hww : fw rw.t = "def" ∨ fw rw.t = "class" := by
              rw [hfw]
              rcases Bool.or_eq_true_iff.mp hh with hh | hh
              · exact .inl (of_decide_eq_true hh)
              · exact .inr (of_decide_eq_true hh)
            obtain ⟨c0, hent⟩ := ent_get I.st hww (by rw [hbs]; exact hbj)
            have M19 := M18.mono e19
            have J19 := J18.mono e19
            have hpa19 := (e1618.trans e19) _ _ hpa
            obtain ⟨cv, hcv, pcv⟩ := M19.cod
            have hcl := Paired.length pcv
            refine q_app hcv (ev_var rfl) (ev_var rfl) (by
              have h4 := hC4 i
              have h5 := codC_len (survey_ok ts rw (List.mem_of_getElem? hrw))
              have h6 : (entC rw).length = (codC rw.t).length := by
                unfold entC
                rw [List.length_map, List.length_zipIdx]
              rw [hcl, List.length_append, List.length_cons, List.length_map, List.length_map, List.length_take]
              omega) fun H20 e20 => ?_
            have J20 := (J19.mono e20).mut nc nCA (zs := cv ++ [.ref pa]) (e20 _ _ hcv)
            have M20 := (M19.mono e20).push (e20 _ _ hcv) (Paired.mapP pcv fun _ _ h => h.mono e20) (e20 _ _ hpa19)
            have eo : ExO C H20 (upd H20 C (.lst (cv ++ [.ref pa]))) := ExO.upd (ExO.of (Ex.refl _))
            have hC20 := e20 _ _ hcv
            have rs20 := ((rs18.mono e19).mono e20).exo nc hC20 eo
            have ri20 := ((ri18.mono e19).mono e20).exo nc hC20 eo
            have hpa20 : upd H20 C (.lst (cv ++ [.ref pa])) pa = some (.tup (pV (rw.p ++ [j]))) := eo _ _ (fun q => by have := e20 _ _ hpa19; rw [q, hC20] at this; cases this) (e20 _ _ hpa19)
            have hqa20 : upd H20 C (.lst (cv ++ [.ref pa])) qa = some (.tup (pV rw.p)) := by
              have h0 := (((e16.trans e1618).trans e19).trans e20) _ _ hqa
              exact eo _ _ (fun q => by rw [q, hC20] at h0; cases h0) h0
            obtain ⟨iy2, hiy2, riy2⟩ := ri20.lst_at
            obtain ⟨y2, hy2, ry2⟩ := riy2.getT hbj
            have htk : ((entC rw).take j).map (·.1) ++ [rw.p ++ [j]] = ((entC rw).take (j + 1)).map (·.1) := by
              rw [take_more hent, List.map_append]
              rfl
            rw [List.append_assoc, htk] at M20
            refine s_when (b := false) (et_is (et_not (et_B (ev_sameR (nn_bodyM (Hc := Hc) (p := rw.p ++ [j]) J20.dm (ev_var rfl) (er_pvar (ev_var rfl) hpa20) J20.prg (by decide) (by rw [List.length_append, List.length_singleton]; omega) nd (bodL_mem hrw hent) adb dpb).en (en_ev (ev_op (ev_var rfl) (ev_var rfl) (rv_ixL (sq_of hiy2) (atI_nat hy2))) ry2.rep) okb dpb))) rfl) (fun hh => nomatch hh) (fun _ H21 e21 => ⟨D2, _, _, _, rfl, J20.mono e21, M20.mono e21, rs20.mono e21, ri20.mono e21, e21 _ _ hqa20⟩)
          · obtain ⟨h1, h2⟩ := Bool.or_eq_false_iff.mp hh
            have hent := ent_no (w := rw) (by rw [hfw]; exact of_decide_eq_false h1) (by rw [hfw]; exact of_decide_eq_false h2)
            refine ⟨D2, _, _, _, rfl, J18.mono e19, ?_, rs18.mono e19, ri18.mono e19, ((e16.trans e1618).trans e19) _ _ hqa⟩
            rw [hent, List.take_nil] at M18 ⊢
            exact M18.mono e19
      · obtain ⟨Dd, s11, s12, s13, rfl, J, M, rs, ri, hqa⟩ := hP
        rw [Int.toNat_natCast] at M
        refine ⟨Dd, _, _, _, _, _, _, rfl, J, ?_⟩
        have h1 : (entC rw).take bs.length = entC rw := by
          by_cases hww : fw rw.t = "def" ∨ fw rw.t = "class"
          · rw [← hbs, ← ent_len I.st hww, List.take_of_length_le (Nat.le_refl _)]
          · have hent := ent_no (w := rw) (fun q => hww (.inl q)) (fun q => hww (.inr q))
            rw [hent, List.take_nil]
        rw [h1, List.take_of_length_le (Nat.le_refl _), ← hkids] at M
        rw [allC_take hrw, take_kids hLi, List.map_append, ← List.append_assoc, List.map_append]
        exact M
    · obtain ⟨Dd, s8, s9, s10, s11, s12, s13, rfl, J, M⟩ := hP
      have hyw : ys.length = (surveyT ts).1.length := by rw [hyl, hPn, hWl]
      rw [hyw, List.take_of_length_le (Nat.le_refl _), List.take_of_length_le (by rw [hWl]; exact Nat.le_refl _)] at M
      obtain ⟨ne, ⟨zs, hDz, pDz⟩, ⟨cv, hcv, pcv⟩⟩ := M
      have hdl : zs.length = ys.length := by
        rw [Paired.length pDz, List.length_map, List.length_append, hyw, hWl]
        exact rg.len.symm
      refine s_ret (ev_andV (a := true) (b := true) (ev_is (ev_op (ev_lenL (ev_var rfl) (sq_of hDz)) (ev_lenL (ev_var rfl) (sq_of J.rows)) rv_iEq) (by rw [hdl, decide_eq_true rfl])) fun _ => ev_sameR (PLs.en (er_listM (f := fun ts => codesL (surveyT ts).1) (m := "codes") (ev_var rfl) J.prg (by decide))) (en_var rfl (.lst hcv (reps_paths pcv))) (okG_paths (by
        have h4 := hC4 (surveyT ts).1.length
        rw [List.take_of_length_le (Nat.le_refl _)] at h4
        unfold codesL
        rw [List.length_cons, List.length_map]
        omega) fun pp hpp => by
        rcases List.mem_cons.mp hpp with rfl | hpp
        · exact Nat.zero_le _
        · obtain ⟨en, hen, rfl⟩ := List.mem_map.mp hpp
          obtain ⟨rw0, hrw0, hen⟩ := List.mem_flatMap.mp hen
          obtain ⟨kx, hkx⟩ := entC_code hen
          have hm : ptR rw0 ∈ L := by
            rw [← hW]
            exact List.mem_map.mpr ⟨rw0, hrw0, rfl⟩
          have := (rowI rw0.p rw0.t hm).len
          rw [hkx, List.length_append, List.length_singleton]
          omega) (dp_pT _)) fun H11 e11 => k H11
end
end K0
/-! ## K4V -/
set_option Elab.async false
set_option linter.all false
set_option maxRecDepth 100000
set_option maxHeartbeats 0
open PySem PySem.W PySem.Calls PyProof.Rows
theorem PySem.Challenge.cw_everyanswer_k04_paths_are_the_ascending_holds : PySem.Challenge.rw_everyanswer_k04_paths_are_the_ascending.Holds := by
  w_on; o_law
  refine HandSHeadRun.head_any (r := OpenLaw.row PySem.Challenge.rw_everyanswer_k04_paths_are_the_ascending) (q := view (OpenLaw.row PySem.Challenge.rw_everyanswer_k04_paths_are_the_ascending).prog [79]) (H := K0.hk) (ob := K0.ob) (M := 5000) (loose := K0.lo) (d := HandSHeadRun.topDef (OpenLaw.row PySem.Challenge.rw_everyanswer_k04_paths_are_the_ascending).prog 79) (kwd := []) K0.ob_eq
    (by kernel_rfl) (fun s => by kernel_rfl) K0.run (by kernel_rfl) (by kernel_rfl) (by kernel_rfl) (by rfl) (by first | assumption | decide +kernel) (by decide +kernel) ⟨rfl, rfl, rfl, rfl, rfl, by decide +kernel⟩ ?hw ?hc
  case hw => w_witness2
  case hc =>
    refine L2.walk_ofE (l := PySem.Challenge.rw_everyanswer_k04_paths_are_the_ascending) (n := 63) (k := 67) (x := "_law_script") (CX := L2.CX0) rfl (by decide) (by kernel_rfl) ⟨rfl, by decide, by decide⟩ ?F (fun _ _ _ _ z => z)
    intro w mg fa h Y G hmg0
    obtain ⟨K, KX, c⟩ := Y
    have hmg : mg ("law" : PySem.Str) = some (.ref fa) := by
      have e : (HandSHeadRun.topDef (OpenLaw.row PySem.Challenge.rw_everyanswer_k04_paths_are_the_ascending).prog 79).name = ("law" : PySem.Str) := by kernel_rfl
      rw [← e]
      exact hmg0
    have z : K0.Cz w K mg := ⟨h, KX, G, c⟩
    have e := hmg.symm.trans z.glo_law
    cases e
    obtain ⟨fd, F⟩ := c.t.d.def_ 66 (d := K0.d_law) rfl
    have b := L2.FunD.bindsA (ps := ["_law_script"]) F fun _ _ _ _ _ _ us hl => match us, hl with | [_], _ => rfl
    exact ⟨K, fd, K0.SpLaw K, KX, fun s v => b s [v] rfl, fun H a ns hl _ hS => ⟨a, ns, rfl, hS, Nat.le_trans hl (by decide), fun _ => rfl⟩, fun base _ _ => K0.f_law z F⟩

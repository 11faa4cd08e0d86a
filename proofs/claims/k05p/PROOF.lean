import PyProof.Rows.All
import Wide.All
import OpenK.AllK
import Wide.FinOn
import PyProof.EqAt
import PyProof.EqKinds
import PyProof.TupleCall
import HandS.ForMost
import HandS.ForExc
import HandS.ExcInit
import HandS.CallSlots
import HandS.Lambda
import HandS.Wide
import HandS.TupAny
import HandS.IsInst
import HandS.SetKeys
import HandS.ExcIs
import HandS.Conv
import HandS.Text
import HandS.StrMore
import HandS.Small
import HandS.WordsDict
import HandS.ExcValue
import PyProof.Rows.SetFrom
import HandS.Strs
import KE.KSortTupAny
import HandS.SortRule
import KE.KDictList
import HandS.RevTup
import HandS.More
import PyProof.StrLawsChain
import HandS.Style
import PyProof.InstEq
import OpenK.KMeth
import OpenK.KOps
import PyProof.StrLawsRepr
import HandS.FStr
import HandS.ListItems
import PySem.Challenge.RW_wallbooks_k05_books_with_other_rivals
set_option Elab.async false
set_option linter.all false
set_option maxRecDepth 100000
set_option maxHeartbeats 4000000
namespace DLK
open PySem PySem.Spec PyProof.Rows L2
/-- a caught exception that is kept: its class, its own dict -/
def ExK (a : Addr) (cls : Value) (d : Option Addr) : HO := .ext fun h => ∃ (oe : Obj) (vs : Array Value), h.get? a = some oe ∧ Zc cls d oe ∧ oe.data = .fields vs
theorem exK_ok {P : Program} {w : World} {H : Hp} {h : Heap} {a : Addr} {cls : Value} {d : Option Addr} {oe : Obj} {vs : Array Value} (e : h.get? a = some oe) (z : Zc cls d oe) (f : oe.data = .fields vs) : ObjOk P w H h a (ExK a cls d) :=
  ⟨⟨oe, vs, e, z, f⟩, ⟨oe, e⟩, fun _ _ ⟨o, v, q, r⟩ k => ⟨o, v, k o q, r⟩⟩
theorem exK_at {P : Program} {w : World} {H : Hp} {h : Heap} {a : Addr} {cls : Value} {d : Option Addr} (hok : HOk P w H h) (e : H a = some (ExK a cls d)) : ∃ (oe : Obj) (vs : Array Value), h.get? a = some oe ∧ Zc cls d oe ∧ oe.data = .fields vs := (hok a _ e).1
end DLK
namespace DL
open PySem L2

/-- what a value tells, without the heap -/
inductive D where
  | non | bl (b : Bool) | int (i : Int) | str (s : Str)
  | tup (ds : List D) | lst (ds : List D)
  | dic (ks : List Key) (ds : List D)
  | ins (C : Addr) (ks : List Str) (ds : List D)
  | err (C : Addr) (d : D)
  | ty (n : String) | atm (a : Addr)
  | scr (K : PySem.W.Frag) (ns : List Int)

abbrev AvS := Addr → Prop
/-- no table of code objects -/
def NT (o : HO) : Prop := ∀ ps, o ≠ .tbl ps
/-- something stands at a that is no table -/
def Sol (H : Hp) (a : Addr) : Prop := ∃ o, H a = some o ∧ NT o
theorem nosol {H : Hp} {a : Addr} (h : H a = none) : ¬ Sol H a := fun ⟨o, e, _⟩ => by rw [h] at e; cases e
theorem Sol.ne {H : Hp} {a b : Addr} (h : Sol H a) (n : ¬ Sol H b) : a ≠ b := fun z => n (z ▸ h)
theorem nt_lst {vs} : NT (.lst vs) := fun _ z => nomatch z
theorem nt_tup {vs} : NT (.tup vs) := fun _ z => nomatch z
theorem nt_dK {vs} : NT (.dK vs) := fun _ z => nomatch z
theorem nt_ins {C dx fs} : NT (.ins C dx fs) := fun _ z => nomatch z
theorem nt_frz {o x} : NT (.frz o x) := fun _ z => nomatch z
theorem nt_xd {fs} : NT (.xd fs) := fun _ z => nomatch z
theorem nt_exo {a C : Addr} {e} : NT (exo a C e) := fun _ z => by unfold exo at z; cases z
theorem nt_exd {e : Addr} {fs} : NT (exd e fs) := fun _ z => by unfold exd at z; cases z
theorem nt_exk {a : Addr} {c e} : NT (DLK.ExK a c e) := fun _ z => by unfold DLK.ExK at z; cases z
mutual
inductive Den (Av : AvS) (H : Hp) : V → D → Prop
  | non : Den Av H .non .non
  | bl (b : Bool) : Den Av H (.bl b) (.bl b)
  | int (i : Int) : Den Av H (.int i) (.int i)
  | str (x : Str) : Den Av H (.str x) (.str x)
  | ty (n : String) : Den Av H (.ty n) (.ty n)
  | atm (a : Addr) : Den Av H (.ref a) (.atm a)
  | tup {a : Addr} {vs : List V} {ds : List D} : Rd H a (.tup vs) → ¬ Av a → Dens Av H vs ds → Den Av H (.ref a) (.tup ds)
  | lst {a : Addr} {vs : List V} {ds : List D} : H a = some (.lst vs) → ¬ Av a → Dens Av H vs ds → Den Av H (.ref a) (.lst ds)
  | dic {a : Addr} {kvs : List (Key × V)} {ds : List D} : H a = some (.dK kvs) → ¬ Av a → Dens Av H (kvs.map (·.2)) ds → Den Av H (.ref a) (.dic (kvs.map (·.1)) ds)
  | ins {a C dx : Addr} {fs : List (Str × V)} {ds : List D} : H a = some (.ins C dx fs) → ¬ Av a → Dens Av H (fs.map (·.2)) ds → Den Av H (.ref a) (.ins C (fs.map (·.1)) ds)
  | err {a C e : Addr} {v : V} {d : D} : H a = some (exo a C (some e)) → H e = some (exd e [("value", v)]) → ¬ Av a → ¬ Av e → Den Av H v d → Den Av H (.ref a) (.err C d)
  | errK {a C e : Addr} {v : V} {d : D} : H a = some (DLK.ExK a (.ref C) (some e)) → H e = some (.xd [("value", v)]) → ¬ Av a → ¬ Av e → Den Av H v d → Den Av H (.ref a) (.err C d)
  | scr {K : PySem.W.Frag} {a : Addr} {ns : List Int} : Rd H a (.lst (ns.map V.int)) → ¬ Av a → Den Av H (.ref a) (.scr K ns)
  | scrK {K : PySem.W.Frag} {a : Addr} {ns : List Int} : (∃ (o : Obj) (its : Array Value) (n : Nat), K.lookup a = some o ∧ o.cls = .type "list" ∧ o.dict = none ∧ o.data = .seq its n ∧ its.size ≤ sizeLine ∧ Vals (ns.map V.int) its.toList) → Den Av H (.ref a) (.scr K ns)
inductive Dens (Av : AvS) (H : Hp) : List V → List D → Prop
  | nil : Dens Av H [] []
  | cons {v : V} {vs : List V} {d : D} {ds : List D} : Den Av H v d → Dens Av H vs ds → Dens Av H (v :: vs) (d :: ds)
end

/-- all that values lean on stands -/
structure Mono (Av : AvS) (H : Hp) (Av' : AvS) (H' : Hp) : Prop where
  av : ∀ a, Av' a → Av a ∨ ¬ Sol H a
  kp : ∀ a o, ¬ Av a → H a = some o → NT o → H' a = some o
section
variable {Av Av' Av'' : AvS} {H H' H'' : Hp}
theorem Mono.refl : Mono Av H Av H := ⟨fun _ h => .inl h, fun _ _ _ h _ => h⟩
theorem Mono.trans (m : Mono Av H Av' H') (n : Mono Av' H' Av'' H'') : Mono Av H Av'' H'' := by
  have key : ∀ a, ¬ Av a → Sol H a → ¬ Av' a := fun a ha hs h => (m.av a h).elim ha fun z => z hs
  refine ⟨fun a h => ?_, fun a o na e nt => n.kp a o (key a na ⟨o, e, nt⟩) (m.kp a o na e nt) nt⟩
  by_cases ha : Av a
  · exact .inl ha
  · refine .inr fun ⟨o, e, nt⟩ => ?_
    exact (n.av a h).elim (key a ha ⟨o, e, nt⟩) fun z => z ⟨o, m.kp a o ha e nt, nt⟩
theorem Mono.no (m : Mono Av H Av' H') {a : Addr} {o : HO} (na : ¬ Av a) (e : H a = some o) (nt : NT o) : ¬ Av' a := fun h => (m.av a h).elim na fun z => z ⟨o, e, nt⟩
theorem Mono.rd (m : Mono Av H Av' H') {a : Addr} {o : HO} (na : ¬ Av a) (e : Rd H a o) (nt : NT o) : Rd H' a o ∧ ¬ Av' a := by
  rcases e with e | ⟨ob, e⟩
  · exact ⟨.inl (m.kp a _ na e nt), m.no na e nt⟩
  · exact ⟨.inr ⟨ob, m.kp a _ na e nt_frz⟩, m.no na e nt_frz⟩
mutual
theorem Den.mono (m : Mono Av H Av' H') : ∀ {v : V} {d : D}, Den Av H v d → Den Av' H' v d
  | _, _, .non => .non
  | _, _, .bl b => .bl b
  | _, _, .int i => .int i
  | _, _, .str x => .str x
  | _, _, .ty n => .ty n
  | _, _, .atm a => .atm a
  | _, _, .tup h na ds => .tup (m.rd na h nt_tup).1 (m.rd na h nt_tup).2 (Dens.mono m ds)
  | _, _, .lst h na ds => .lst (m.kp _ _ na h nt_lst) (m.no na h nt_lst) (Dens.mono m ds)
  | _, _, .scr h na => .scr (m.rd na h nt_lst).1 (m.rd na h nt_lst).2
  | _, _, .scrK h => .scrK h
  | _, _, .dic h na ds => .dic (m.kp _ _ na h nt_dK) (m.no na h nt_dK) (Dens.mono m ds)
  | _, _, .ins h na ds => .ins (m.kp _ _ na h nt_ins) (m.no na h nt_ins) (Dens.mono m ds)
  | _, _, .err h h2 na ne d => .err (m.kp _ _ na h nt_exo) (m.kp _ _ ne h2 nt_exd) (m.no na h nt_exo) (m.no ne h2 nt_exd) (Den.mono m d)
  | _, _, .errK h h2 na ne d => .errK (m.kp _ _ na h nt_exk) (m.kp _ _ ne h2 nt_xd) (m.no na h nt_exk) (m.no ne h2 nt_xd) (Den.mono m d)
theorem Dens.mono (m : Mono Av H Av' H') : ∀ {vs : List V} {ds : List D}, Dens Av H vs ds → Dens Av' H' vs ds
  | _, _, .nil => .nil
  | _, _, .cons h hs => .cons (Den.mono m h) (Dens.mono m hs)
end
theorem Dens.length : ∀ {vs : List V} {ds : List D}, Dens Av H vs ds → vs.length = ds.length
  | _, _, .nil => rfl
  | _, _, .cons _ hs => by rw [List.length_cons, List.length_cons, hs.length]
theorem Dens.get : ∀ {vs : List V} {ds : List D} {i : Nat} {d : D}, Dens Av H vs ds → ds[i]? = some d → ∃ v, vs[i]? = some v ∧ Den Av H v d
  | _, _, _, _, .nil, e => by simp at e
  | _, _, 0, _, .cons h _, e => by simp at e; subst e; exact ⟨_, rfl, h⟩
  | _, _, i + 1, _, .cons _ t, e => by
    obtain ⟨v, h1, h2⟩ := Dens.get (i := i) t (by simpa using e)
    exact ⟨v, by simpa using h1, h2⟩
theorem Dens.getV : ∀ {vs : List V} {ds : List D} {i : Nat} {v : V}, Dens Av H vs ds → vs[i]? = some v → ∃ d, ds[i]? = some d ∧ Den Av H v d
  | _, _, _, _, .nil, e => by simp at e
  | _, _, 0, _, .cons h _, e => by simp at e; subst e; exact ⟨_, rfl, h⟩
  | _, _, i + 1, _, .cons _ t, e => by
    obtain ⟨v, h1, h2⟩ := Dens.getV (i := i) t (by simpa using e)
    exact ⟨v, by simpa using h1, h2⟩
theorem Dens.append : ∀ {vs ws : List V} {ds es : List D}, Dens Av H vs ds → Dens Av H ws es → Dens Av H (vs ++ ws) (ds ++ es)
  | _, _, _, _, .nil, s => s
  | _, _, _, _, .cons h t, s => .cons h (Dens.append t s)
theorem Dens.take : ∀ {vs : List V} {ds : List D} (n : Nat), Dens Av H vs ds → Dens Av H (vs.take n) (ds.take n)
  | _, _, 0, _ => .nil
  | _, _, _ + 1, .nil => .nil
  | _, _, n + 1, .cons h t => .cons h (Dens.take n t)
theorem Dens.drop : ∀ {vs : List V} {ds : List D} (n : Nat), Dens Av H vs ds → Dens Av H (vs.drop n) (ds.drop n)
  | _, _, 0, s => s
  | _, _, _ + 1, .nil => .nil
  | _, _, n + 1, .cons _ t => Dens.drop n t
theorem Dens.set : ∀ {vs : List V} {ds : List D} (i : Nat) {v : V} {d : D}, Dens Av H vs ds → Den Av H v d → Dens Av H (vs.set i v) (ds.set i d)
  | _, _, _, _, _, .nil, _ => .nil
  | _, _, 0, _, _, .cons _ t, g => .cons g t
  | _, _, i + 1, _, _, .cons h t, g => .cons h (Dens.set i t g)
theorem Dens.eraseIdx : ∀ {vs : List V} {ds : List D} (i : Nat), Dens Av H vs ds → Dens Av H (vs.eraseIdx i) (ds.eraseIdx i)
  | _, _, _, .nil => .nil
  | _, _, 0, .cons _ t => t
  | _, _, i + 1, .cons h t => .cons h (Dens.eraseIdx i t)
theorem Dens.reverse {vs : List V} {ds : List D} (h : Dens Av H vs ds) : Dens Av H vs.reverse ds.reverse := by
  induction vs generalizing ds with
  | nil => cases h; exact .nil
  | cons v vs ih =>
    cases h with
    | cons h t =>
      rw [List.reverse_cons, List.reverse_cons]
      exact (ih t).append (.cons h .nil)
theorem Dens.inj_ints : ∀ {vs : List V} {ns : List Int}, Dens Av H vs (ns.map D.int) → vs = ns.map V.int
  | _, [], .nil => rfl
  | _, n :: ns, .cons h t => by cases h; rw [List.map_cons, Dens.inj_ints t]
theorem Dens.inj_strs : ∀ {vs : List V} {ns : List Str}, Dens Av H vs (ns.map D.str) → vs = ns.map V.str
  | _, [], .nil => rfl
  | _, n :: ns, .cons h t => by cases h; rw [List.map_cons, Dens.inj_strs t]
theorem Dens.inj_bls : ∀ {vs : List V} {ns : List Bool}, Dens Av H vs (ns.map D.bl) → vs = ns.map V.bl
  | _, [], .nil => rfl
  | _, n :: ns, .cons h t => by cases h; rw [List.map_cons, Dens.inj_bls t]
end

/-! ### what stands in a slot of the frame -/
inductive Sl where
  | un | val (d : D) | own (ds : List D) | bor (a : Addr) (ds : List D) | box (q : Option Addr) (x : D)
abbrev Env := List Sl

/-- the constants of a def's body: the heap at its entry, what values must keep off there, what it may change -/
abbrev TBL := List (Addr × Str)
structure Cn (τ : TBL) where
  H0 : Hp
  Av0 : AvS
  P : AvS

def ownA : Option V → Sl → Option Addr
  | some (.ref a), .own _ => some a
  | some (.ref a), .bor _ _ => some a
  | some (.ref a), .box _ _ => some a
  | _, _ => none
/-- what stands at a, to be changed: a dict, an instance -/
def Box (Av : AvS) (H : Hp) (a : Addr) : D → Prop
  | .dic ks ds => ∃ kvs : List (Key × V), H a = some (.dK kvs) ∧ kvs.map (·.1) = ks ∧ Dens Av H (kvs.map (·.2)) ds
  | .ins C ks ds => ∃ dx, ∃ fs : List (Str × V), H a = some (.ins C dx fs) ∧ fs.map (·.1) = ks ∧ Dens Av H (fs.map (·.2)) ds
  | _ => False
theorem Box.mono {Av Av' : AvS} {H H' : Hp} {a : Addr} {x : D} (h : Box Av H a x) (k : ∀ o, H a = some o → NT o → H' a = some o) (m : Mono Av H Av' H') : Box Av' H' a x := by
  cases x with
  | dic ks ds => obtain ⟨kvs, e, e2, q⟩ := h; exact ⟨kvs, k _ e nt_dK, e2, q.mono m⟩
  | ins C ks ds => obtain ⟨dx, fs, e, e2, q⟩ := h; exact ⟨dx, fs, k _ e nt_ins, e2, q.mono m⟩
  | _ => exact h.elim
def SlOk {τ : TBL} (c : Cn τ) (Av : AvS) (H : Hp) (o : Option V) : Sl → Prop
  | .un => True
  | .val d => ∃ v, o = some v ∧ Den Av H v d
  | .own ds => ∃ a vs, o = some (.ref a) ∧ Av a ∧ H a = some (.lst vs) ∧ Dens Av H vs ds ∧ (c.P a ∨ ¬ Sol c.H0 a) ∧ ¬ c.Av0 a
  | .bor a ds => ∃ vs, o = some (.ref a) ∧ Av a ∧ H a = some (.lst vs) ∧ Dens Av H vs ds ∧ (c.P a ∨ ¬ Sol c.H0 a)
  | .box q x => ∃ a, o = some (.ref a) ∧ Av a ∧ Box Av H a x ∧ (c.P a ∨ ¬ Sol c.H0 a) ∧ (q = some a ∨ q = none ∧ ¬ c.Av0 a)
structure Good {τ : TBL} (c : Cn τ) (Av : AvS) (σ : L2.St) (H : Hp) (env : Env) : Prop where
  len : env.length = σ.length
  ok : ∀ (i : Nat) s o, env[i]? = some s → σ[i]? = some o → SlOk c Av H o s
  sep : ∀ (i j : Nat) s t o p a, i ≠ j → env[i]? = some s → env[j]? = some t → σ[i]? = some o → σ[j]? = some p → ownA o s = some a → ownA p t ≠ some a
  lo : ∀ a, c.Av0 a → Av a
  live : ∀ a, Av a → Sol H a
  fr : ∀ a o, ¬ c.P a → c.H0 a = some o → NT o → H a = some o
  pl : ∀ a, c.P a → Sol H a
  tab : LamX.Tabs τ H
section
variable {τ : TBL} {c : Cn τ} {Av Av' : AvS} {σ : L2.St} {H H' : Hp} {env : Env} {i : Nat} {d : D} {v : V} {o : Option V} {s : Sl}
theorem Good.slot (g : Good c Av σ H env) (e : env[i]? = some s) : ∃ o, σ[i]? = some o ∧ SlOk c Av H o s := by
  have h1 : i < env.length := (List.getElem?_eq_some_iff.mp e).1
  have h2 : i < σ.length := by rw [← g.len]; exact h1
  exact ⟨σ[i], List.getElem?_eq_getElem h2, g.ok i s _ e (List.getElem?_eq_getElem h2)⟩
theorem Good.val (g : Good c Av σ H env) (e : env[i]? = some (.val d)) : ∃ v, σ[i]? = some (some v) ∧ Den Av H v d := by
  obtain ⟨o, h1, v, rfl, h2⟩ := g.slot e
  exact ⟨v, h1, h2⟩
/-- no part of a table: no table, no code object -/
structure Pla (o : HO) : Prop where
  nt : NT o
  nc : ∀ c q, o ≠ LamX.CodeO c q
theorem pla_lst {vs} : Pla (.lst vs) := ⟨nt_lst, fun _ _ z => by unfold LamX.CodeO at z; cases z⟩
theorem pla_dK {vs} : Pla (.dK vs) := ⟨nt_dK, fun _ _ z => by unfold LamX.CodeO at z; cases z⟩
theorem pla_ins {C dx fs} : Pla (.ins C dx fs) := ⟨nt_ins, fun _ _ z => by unfold LamX.CodeO at z; cases z⟩
theorem tabs_but {T : List (Addr × Str)} {H H' : Hp} {a : Addr} {o : HO} (h : LamX.Tabs T H) (e : H a = some o) (pl : Pla o) (fr : ∀ b u, b ≠ a → H b = some u → H' b = some u) : LamX.Tabs T H' := fun p hp => by
  obtain ⟨ps, h1, h2, h3⟩ := h p hp
  refine ⟨ps, fr _ _ (fun z => ?_) h1, h2, fun pos cv hc => ?_⟩
  · rw [z, e] at h1; exact pl.nt ps (Option.some.inj h1)
  · obtain ⟨c, e1, e2⟩ := h3 pos cv hc
    refine ⟨c, e1, fr _ _ (fun z => ?_) e2⟩
    rw [z, e] at e2; exact pl.nc _ _ (Option.some.inj e2)
theorem tabs_sub {T : List (Addr × Str)} {H H' : Hp} {a : Addr} {o : HO} (h : LamX.Tabs T H) (e : H a = some o) (pl : Pla o) (fr : ∀ b u, b ≠ a → H b = some u → H' b = some u) : LamX.Tabs T H' := tabs_but h e pl fr
/-- a new object -/
theorem Mono.new {p : Addr} {ob : HO} (hp : H p = none) : Mono Av H Av (upd H p ob) := ⟨fun _ h => .inl h, fun a u _ e _ => by rw [upd_ne (ne_of_none e hp)]; exact e⟩
/-- the heap grows -/
theorem SlOk.grow (m : Mono Av H Av' H') (ha : ∀ a, Av a → Av' a) (hk : ∀ a o, Av a → H a = some o → NT o → H' a = some o) (h : SlOk c Av H o s) : SlOk c Av' H' o s := by
  cases s with
  | un => trivial
  | val d => obtain ⟨v, e, q⟩ := h; exact ⟨v, e, q.mono m⟩
  | own ds => obtain ⟨a, vs, e, q1, q2, q3, q4⟩ := h; exact ⟨a, vs, e, ha _ q1, hk _ _ q1 q2 nt_lst, q3.mono m, q4⟩
  | bor a ds => obtain ⟨vs, e, q1, q2, q3, q4⟩ := h; exact ⟨vs, e, ha _ q1, hk _ _ q1 q2 nt_lst, q3.mono m, q4⟩
  | box q x => obtain ⟨a, e, q1, q2, q3⟩ := h; exact ⟨a, e, ha _ q1, q2.mono (fun o => hk a o q1) m, q3⟩
theorem Good.kept (g : Good c Av σ H env) (k : ∀ a o, H a = some o → NT o → H' a = some o) (tb : LamX.Tabs τ H') : Good c Av σ H' env where
  len := g.len
  ok := fun i s o e1 e2 => (g.ok i s o e1 e2).grow ⟨fun _ h => .inl h, fun a o _ e nt => k a o e nt⟩ (fun _ h => h) fun a o _ e nt => k a o e nt
  sep := g.sep
  lo := g.lo
  live := fun a h => let ⟨o, e, nt⟩ := g.live a h; ⟨o, k a o e nt, nt⟩
  fr := fun a o np e nt => k a o (g.fr a o np e nt) nt
  pl := fun a h => let ⟨o, e, nt⟩ := g.pl a h; ⟨o, k a o e nt, nt⟩
  tab := tb
theorem Good.grow (g : Good c Av σ H env) (k : ∀ a o, H a = some o → H' a = some o) : Good c Av σ H' env := g.kept (fun a o e _ => k a o e) (g.tab.ext k)
theorem Mono.kept (k : ∀ a o, H a = some o → NT o → H' a = some o) : Mono Av H Av H' := ⟨fun _ h => .inl h, fun a o _ e nt => k a o e nt⟩
theorem Mono.grow (k : ∀ a o, H a = some o → H' a = some o) : Mono Av H Av H' := .kept fun a o e _ => k a o e
theorem keepNew {p : Addr} {ob : HO} (hp : H p = none) : ∀ a o, H a = some o → upd H p ob a = some o := fun a o e => by rw [upd_ne (ne_of_none e hp)]; exact e
theorem Good.new (g : Good c Av σ H env) {p : Addr} {ob : HO} (hp : H p = none) : Good c Av σ (upd H p ob) env := g.grow (keepNew hp)
theorem Good.notAv (g : Good c Av σ H env) {p : Addr} (hp : H p = none) : ¬ Av p := fun h => nosol hp (g.live p h)
/-- a slot is stored -/
theorem Good.setVal (g : Good c Av σ H env) (hv : Den Av H v d) (i : Nat) : Good c Av (σ.set i (some v)) H (env.set i (.val d)) where
  len := by rw [List.length_set, List.length_set, g.len]
  ok := fun j s o e1 e2 => by
    rw [List.getElem?_set] at e1 e2
    by_cases h : i = j
    · subst h
      rw [if_pos rfl] at e1 e2
      split at e1
      · split at e2
        · cases e1; cases e2; exact ⟨v, rfl, hv⟩
        · cases e2
      · cases e1
    · rw [if_neg h] at e1 e2
      exact g.ok j s o e1 e2
  sep := fun j k s t o p a hjk e1 e2 e3 e4 h1 => by
    rw [List.getElem?_set] at e1 e2 e3 e4
    by_cases h : i = j
    · subst h
      rw [if_pos rfl] at e1
      split at e1
      · cases e1
        cases o with
        | none => cases h1
        | some w => cases w <;> cases h1
      · cases e1
    · rw [if_neg h] at e1 e3
      by_cases h' : i = k
      · subst h'
        rw [if_pos rfl] at e2
        split at e2
        · cases e2
          cases p with
          | none => exact fun z => nomatch z
          | some w => cases w <;> exact fun z => nomatch z
        · cases e2
      · rw [if_neg h'] at e2 e4
        exact g.sep j k s t o p a hjk e1 e2 e3 e4 h1
  lo := g.lo
  live := g.live
  fr := g.fr
  pl := g.pl
  tab := g.tab
theorem Good.freeS (g : Good c Av σ H env) {p : Addr} (hp : ¬ Sol H p) : ¬ Sol c.H0 p := fun ⟨o, e, nt⟩ => by
  by_cases hP : c.P p
  · exact hp (g.pl p hP)
  · exact hp ⟨o, g.fr p o hP e nt, nt⟩
theorem Good.free0 (g : Good c Av σ H env) {p : Addr} (hp : H p = none) : ¬ Sol c.H0 p := g.freeS (nosol hp)

/-! ### lists that may change -/
def mutOf : Sl → Option (List D)
  | .own ds => some ds
  | .bor _ ds => some ds
  | _ => none
def setMut : Sl → List D → Sl
  | .own _, ds => .own ds
  | .bor a _, ds => .bor a ds
  | s, _ => s
theorem own_eq {s : Sl} {ds : List D} (h : mutOf s = some ds) (k : SlOk c Av H o s) : ∃ a vs, o = some (.ref a) ∧ ownA o s = some a ∧ Av a ∧ H a = some (.lst vs) ∧ Dens Av H vs ds ∧ (c.P a ∨ ¬ Sol c.H0 a) ∧
    ∀ H' vs' ds', H' a = some (.lst vs') → Dens Av H' vs' ds' → SlOk c Av H' o (setMut s ds') ∧ ownA o (setMut s ds') = some a := by
  cases s with
  | un => cases h
  | val d => cases h
  | own ds =>
    cases h
    obtain ⟨a, vs, rfl, q1, q2, q3, q4, q5⟩ := k
    exact ⟨a, vs, rfl, rfl, q1, q2, q3, q4, fun H' vs' ds' e1 e2 => ⟨⟨a, vs', rfl, q1, e1, e2, q4, q5⟩, rfl⟩⟩
  | bor a ds =>
    cases h
    obtain ⟨vs, rfl, q1, q2, q3, q4⟩ := k
    exact ⟨a, vs, rfl, rfl, q1, q2, q3, q4, fun H' vs' ds' e1 e2 => ⟨⟨vs', rfl, q1, e1, e2, q4⟩, rfl⟩⟩
  | box q x => cases h
theorem ownA_av {s : Sl} {a : Addr} (h : ownA o s = some a) (k : SlOk c Av H o s) : Av a := by
  cases s with
  | un => cases o with
    | none => cases h
    | some w => cases w <;> cases h
  | val d => cases o with
    | none => cases h
    | some w => cases w <;> cases h
  | own ds =>
    obtain ⟨b, vs, rfl, q1, _⟩ := k
    cases h; exact q1
  | bor b ds =>
    obtain ⟨vs, rfl, q1, _⟩ := k
    cases h; exact q1
  | box q x =>
    obtain ⟨b, rfl, q1, _⟩ := k
    cases h; exact q1
theorem Mono.but {a : Addr} (ha : Av a) (fr : ∀ b o, b ≠ a → H b = some o → NT o → H' b = some o) : Mono Av H Av H' := ⟨fun _ h => .inl h, fun b u nb e nt => fr b u (fun z : b = a => nb (by rw [z]; exact ha)) e nt⟩
theorem Mono.upd {a : Addr} {ob : HO} (ha : Av a) : Mono Av H Av (L2.upd H a ob) := .but ha fun b u h e _ => by rw [upd_ne h]; exact e
theorem SlOk.other {a : Addr} (ha : Av a) (hn : ownA o s ≠ some a) (fr : ∀ b o, b ≠ a → H b = some o → NT o → H' b = some o) (h : SlOk c Av H o s) : SlOk c Av H' o s := by
  cases s with
  | un => trivial
  | val d => obtain ⟨v, e, q⟩ := h; exact ⟨v, e, q.mono (Mono.but ha fr)⟩
  | own ds =>
    obtain ⟨b, vs, rfl, q1, q2, q3, q4⟩ := h
    exact ⟨b, vs, rfl, q1, fr _ _ (fun z => hn (by rw [z]; rfl)) q2 nt_lst, q3.mono (Mono.but ha fr), q4⟩
  | bor b ds =>
    obtain ⟨vs, rfl, q1, q2, q3, q4⟩ := h
    exact ⟨vs, rfl, q1, fr _ _ (fun z => hn (by rw [z]; rfl)) q2 nt_lst, q3.mono (Mono.but ha fr), q4⟩
  | box q x =>
    obtain ⟨b, rfl, q1, q2, q3⟩ := h
    exact ⟨b, rfl, q1, q2.mono (fun o => fr b o (fun z => hn (by rw [z]; rfl))) (Mono.but ha fr), q3⟩
theorem Good.mutTo {ds vs' ds'} {a : Addr} (g : Good c Av σ H env) (e : env[i]? = some s) (hm : mutOf s = some ds) (e2 : σ[i]? = some (some (.ref a))) (h1 : H' a = some (.lst vs')) (h2 : Dens Av H' vs' ds') (fr : ∀ b o, b ≠ a → H b = some o → NT o → H' b = some o) (tb : LamX.Tabs τ H') :
    Good c Av σ H' (env.set i (setMut s ds')) ∧ Mono Av H Av H' := by
  obtain ⟨o, e2', k⟩ := g.slot e
  rw [e2] at e2'; cases e2'
  obtain ⟨a', vs, z, q0, q1, q2, q3, q4, q5⟩ := own_eq hm k
  cases z
  refine ⟨?_, Mono.but q1 fr⟩
  obtain ⟨r1, r2⟩ := q5 H' vs' ds' h1 h2
  have hi : i < env.length := (List.getElem?_eq_some_iff.mp e).1
  constructor
  · rw [List.length_set]; exact g.len
  · intro j s' o' e1 e3
    rw [List.getElem?_set] at e1
    by_cases h : i = j
    · subst h
      rw [if_pos rfl, if_pos hi] at e1
      cases e1
      rw [e2] at e3; cases e3
      exact r1
    · rw [if_neg h] at e1
      exact (g.ok j s' o' e1 e3).other q1 (g.sep i j s s' _ o' a h e e1 e2 e3 q0) fr
  · intro j k' s' t o' p b hjk e1 e3 e4 e5 h1
    rw [List.getElem?_set] at e1 e3
    by_cases h : i = j
    · subst h
      rw [if_pos rfl, if_pos hi] at e1
      rw [if_neg hjk] at e3
      cases e1
      rw [e2] at e4; cases e4
      rw [r2] at h1; cases h1
      exact g.sep i k' s t _ p a hjk e e3 e2 e5 q0
    · rw [if_neg h] at e1
      by_cases h' : i = k'
      · subst h'
        rw [if_pos rfl, if_pos hi] at e3
        cases e3
        rw [e2] at e5; cases e5
        rw [r2]
        intro z; cases z
        exact g.sep j i s' s o' _ a hjk e1 e e4 e2 h1 q0
      · rw [if_neg h'] at e3
        exact g.sep j k' s' t o' p b hjk e1 e3 e4 e5 h1
  · exact g.lo
  · intro b hb
    by_cases h : b = a
    · exact ⟨_, by rw [h]; exact h1, nt_lst⟩
    · obtain ⟨u, hu, nt⟩ := g.live b hb
      exact ⟨u, fr b u h hu nt, nt⟩
  · intro b u np h0 nt
    have hb : b ≠ a := fun z => by
      rcases q4 with q4 | q4
      · exact np (z ▸ q4)
      · exact q4 ⟨u, z ▸ h0, nt⟩
    exact fr b u hb (g.fr b u np h0 nt) nt
  · intro b hb
    by_cases h : b = a
    · exact ⟨_, by rw [h]; exact h1, nt_lst⟩
    · obtain ⟨u, hu, nt⟩ := g.pl b hb
      exact ⟨u, fr b u h hu nt, nt⟩
  · exact tb
theorem Good.mutAt {ds : List D} (g : Good c Av σ H env) (e : env[i]? = some s) (hm : mutOf s = some ds) : ∃ a vs, σ[i]? = some (some (.ref a)) ∧ Av a ∧ H a = some (.lst vs) ∧ Dens Av H vs ds ∧
    ∀ vs' ds', Dens Av H vs' ds' → Good c Av σ (L2.upd H a (.lst vs')) (env.set i (setMut s ds')) ∧ Mono Av H Av (L2.upd H a (.lst vs')) := by
  obtain ⟨o, e2, k⟩ := g.slot e
  obtain ⟨a, vs, rfl, q0, q1, q2, q3, q4, q5⟩ := own_eq hm k
  refine ⟨a, vs, e2, q1, q2, q3, fun vs' ds' dn => ?_⟩
  have fr : ∀ b o, b ≠ a → H b = some o → L2.upd H a (.lst vs') b = some o := fun b o h e => by rw [upd_ne h]; exact e
  exact g.mutTo e hm e2 upd_same (dn.mono (Mono.upd q1)) (fun b o h e _ => fr b o h e) (tabs_but g.tab q2 pla_lst fr)

/-! ### a new list -/
def add (Av : AvS) (p : Addr) : AvS := fun a => Av a ∨ a = p
def rem (Av : AvS) (p : Addr) : AvS := fun a => Av a ∧ a ≠ p
/-- at p stands a new list of ds, which nothing else leans on -/
structure Fresh {τ : TBL} (c : Cn τ) (Av : AvS) (σ : L2.St) (H : Hp) (env : Env) (p : Addr) (ds : List D) : Prop where
  g : Good c Av σ H env
  inn : Av p
  no : ∀ (i : Nat) s o, env[i]? = some s → σ[i]? = some o → ownA o s ≠ some p
  n0 : ¬ c.Av0 p
  h0 : ¬ Sol c.H0 p
  at_ : ∃ vs, H p = some (.lst vs) ∧ Dens Av H vs ds
theorem Mono.shrink (h : ∀ a, Av' a → Av a) : Mono Av H Av' H := ⟨fun a x => .inl (h a x), fun _ _ _ e _ => e⟩
theorem SlOk.shrink {p : Addr} (hn : ownA o s ≠ some p) (h : SlOk c Av H o s) : SlOk c (rem Av p) H o s := by
  have m : Mono Av H (rem Av p) H := Mono.shrink fun a x => x.1
  cases s with
  | un => trivial
  | val d => obtain ⟨v, e, q⟩ := h; exact ⟨v, e, q.mono m⟩
  | own ds =>
    obtain ⟨b, vs, rfl, q1, q2, q3, q4⟩ := h
    exact ⟨b, vs, rfl, ⟨q1, fun z => hn (by rw [z]; rfl)⟩, q2, q3.mono m, q4⟩
  | bor b ds =>
    obtain ⟨vs, rfl, q1, q2, q3, q4⟩ := h
    exact ⟨vs, rfl, ⟨q1, fun z => hn (by rw [z]; rfl)⟩, q2, q3.mono m, q4⟩
  | box q x =>
    obtain ⟨b, rfl, q1, q2, q3⟩ := h
    exact ⟨b, rfl, ⟨q1, fun z => hn (by rw [z]; rfl)⟩, q2.mono (fun _ e _ => e) m, q3⟩
theorem Good.shrink {p : Addr} (g : Good c Av σ H env) (no : ∀ (i : Nat) s o, env[i]? = some s → σ[i]? = some o → ownA o s ≠ some p) (n0 : ¬ c.Av0 p) : Good c (rem Av p) σ H env :=
  ⟨g.len, fun i s o e1 e2 => (g.ok i s o e1 e2).shrink (no i s o e1 e2), g.sep, fun a h => ⟨g.lo a h, fun z => n0 (z ▸ h)⟩, fun a h => g.live a h.1, g.fr, g.pl, g.tab⟩
theorem Fresh.toVal {p : Addr} {ds : List D} (f : Fresh c Av σ H env p ds) : Good c (rem Av p) σ H env ∧ Den (rem Av p) H (.ref p) (.lst ds) ∧ Mono Av H (rem Av p) H := by
  obtain ⟨vs, e, q⟩ := f.at_
  have m : Mono Av H (rem Av p) H := Mono.shrink fun a x => x.1
  exact ⟨f.g.shrink f.no f.n0, .lst e (fun z => z.2 rfl) (q.mono m), m⟩
theorem Mono.addNew {p : Addr} {ob : HO} (hp : H p = none) : Mono Av H (add Av p) (L2.upd H p ob) := ⟨fun a h => h.imp id (fun z => by rw [z]; exact nosol hp), fun a u _ e _ => keepNew hp a u e⟩
theorem Good.fresh (g : Good c Av σ H env) {p : Addr} {vs : List V} {ds : List D} (hp : H p = none) (q : Dens Av H vs ds) : Fresh c (add Av p) σ (L2.upd H p (.lst vs)) env p ds := by
  have na := g.notAv hp
  have m : Mono Av H (add Av p) (L2.upd H p (.lst vs)) := Mono.addNew hp
  have g' := g.new (ob := .lst vs) hp
  refine ⟨⟨g.len, fun i s o e1 e2 => (g.ok i s o e1 e2).grow m (fun a h => .inl h) (fun a u _ e _ => keepNew hp a u e), g.sep, fun a h => .inl (g.lo a h), fun a h => ?_, g'.fr, g'.pl, g'.tab⟩, .inr rfl, fun i s o e1 e2 z => na (ownA_av z (g.ok i s o e1 e2)), fun z => na (g.lo p z), g.free0 hp, vs, upd_same, q.mono m⟩
  rcases h with h | h
  · exact g'.live a h
  · rw [h]; exact ⟨_, upd_same, nt_lst⟩
theorem Fresh.toOwn {p : Addr} {ds : List D} (f : Fresh c Av σ H env p ds) (i : Nat) : Good c Av (σ.set i (some (.ref p))) H (env.set i (.own ds)) := by
  obtain ⟨vs, e, q⟩ := f.at_
  have g := f.g
  constructor
  · rw [List.length_set, List.length_set]; exact g.len
  · intro j s o e1 e2
    rw [List.getElem?_set] at e1 e2
    by_cases h : i = j
    · subst h
      rw [if_pos rfl] at e1 e2
      split at e1
      · split at e2
        · cases e1; cases e2
          exact ⟨p, vs, rfl, f.inn, e, q, .inr f.h0, f.n0⟩
        · cases e2
      · cases e1
    · rw [if_neg h] at e1 e2
      exact g.ok j s o e1 e2
  · intro j k s t o p' a hjk e1 e2 e3 e4 h1
    rw [List.getElem?_set] at e1 e2 e3 e4
    by_cases h : i = j
    · subst h
      rw [if_pos rfl] at e1 e3
      rw [if_neg hjk] at e2 e4
      split at e1
      · split at e3
        · cases e1; cases e3; cases h1
          exact f.no k t p' e2 e4
        · cases e3
      · cases e1
    · rw [if_neg h] at e1 e3
      by_cases h' : i = k
      · subst h'
        rw [if_pos rfl] at e2 e4
        split at e2
        · split at e4
          · cases e2; cases e4
            intro z; cases z
            exact f.no j s o e1 e3 h1
          · cases e4
        · cases e2
      · rw [if_neg h'] at e2 e4
        exact g.sep j k s t o p' a hjk e1 e2 e3 e4 h1
  · exact g.lo
  · exact g.live
  · exact g.fr
  · exact g.pl
  · exact g.tab
/-- a list of the frame's own is from now on a value -/
theorem Good.freeze {ds : List D} (g : Good c Av σ H env) (e : env[i]? = some (.own ds)) : ∃ Av', Good c Av' σ H (env.set i (.val (.lst ds))) ∧ Mono Av H Av' H := by
  obtain ⟨o, e2, a, vs, rfl, q1, q2, q3, q4, q5⟩ := g.slot e
  have m : Mono Av H (rem Av a) H := Mono.shrink fun b x => x.1
  have hi : i < env.length := (List.getElem?_eq_some_iff.mp e).1
  refine ⟨rem Av a, ?_, m⟩
  constructor
  · rw [List.length_set]; exact g.len
  · intro j s o e1 e3
    rw [List.getElem?_set] at e1
    by_cases h : i = j
    · subst h
      rw [if_pos rfl, if_pos hi] at e1
      cases e1
      rw [e2] at e3; cases e3
      exact ⟨_, rfl, .lst q2 (fun z => z.2 rfl) (q3.mono m)⟩
    · rw [if_neg h] at e1
      exact (g.ok j s o e1 e3).shrink (g.sep i j _ s _ o a h e e1 e2 e3 rfl)
  · intro j k s t o p b hjk e1 e3 e4 e5 h1
    rw [List.getElem?_set] at e1 e3
    by_cases h : i = j
    · subst h
      rw [if_pos rfl, if_pos hi] at e1
      cases e1
      rw [e2] at e4; cases e4
      cases h1
    · rw [if_neg h] at e1
      by_cases h' : i = k
      · subst h'
        rw [if_pos rfl, if_pos hi] at e3
        cases e3
        rw [e2] at e5; cases e5
        exact fun z => nomatch z
      · rw [if_neg h'] at e3
        exact g.sep j k s t o p b hjk e1 e3 e4 e5 h1
  · exact fun b hb => ⟨g.lo b hb, fun z => q5 (z ▸ hb)⟩
  · exact fun b hb => g.live b hb.1
  · exact g.fr
  · exact g.pl
  · exact g.tab

/-! ### a block of its own, where a list at p grows behind the scene -/
def ownsAt (σ : L2.St) (env : Env) : AvS := fun a => ∃ (i : Nat) (s : Sl) (o : Option V), env[i]? = some s ∧ σ[i]? = some o ∧ ownA o s = some a
def blkCn {τ : TBL} (c : Cn τ) (p : Addr) (σ : L2.St) (H : Hp) (env : Env) : Cn τ := ⟨H, fun a => c.Av0 a ∨ a = p, ownsAt σ env⟩
/-- something stands at p that nothing leans on -/
structure Hid {τ : TBL} (c : Cn τ) (Av : AvS) (σ : L2.St) (H : Hp) (env : Env) (p : Addr) : Prop where
  g : Good c Av σ H env
  inn : Av p
  no : ∀ (i : Nat) s o, env[i]? = some s → σ[i]? = some o → ownA o s ≠ some p
  n0 : ¬ c.Av0 p
  h0 : ¬ Sol c.H0 p
  po : ∃ o, H p = some o ∧ Pla o
theorem Fresh.hid {p : Addr} {ds : List D} (f : Fresh c Av σ H env p ds) : Hid c Av σ H env p := ⟨f.g, f.inn, f.no, f.n0, f.h0, let ⟨vs, e, _⟩ := f.at_; ⟨_, e, pla_lst⟩⟩
theorem Good.hide (g : Good c Av σ H env) {p : Addr} {ob : HO} (hp : H p = none) (hob : Pla ob) : Hid c (add Av p) σ (L2.upd H p ob) env p := by
  have na := g.notAv hp
  have m : Mono Av H (add Av p) (L2.upd H p ob) := Mono.addNew hp
  have g' := g.new (ob := ob) hp
  refine ⟨⟨g.len, fun i s o e1 e2 => (g.ok i s o e1 e2).grow m (fun a h => .inl h) (fun a u _ e _ => keepNew hp a u e), g.sep, fun a h => .inl (g.lo a h), fun a h => ?_, g'.fr, g'.pl, g'.tab⟩, .inr rfl, fun i s o e1 e2 z => na (ownA_av z (g.ok i s o e1 e2)), fun z => na (g.lo p z), g.free0 hp, _, upd_same, hob⟩
  rcases h with h | h
  · exact g'.live a h
  · rw [h]; exact ⟨_, upd_same, hob.nt⟩
/-- what was hidden is changed, then a value -/
theorem Hid.show {p : Addr} {ob : HO} (f : Hid c Av σ H env p) (hob : NT ob) : Good c (rem Av p) σ (L2.upd H p ob) env ∧ Mono Av H (rem Av p) (L2.upd H p ob) := by
  have g := f.g.shrink f.no f.n0
  have m2 : Mono Av H Av (L2.upd H p ob) := Mono.upd f.inn
  have fr : ∀ b o, b ≠ p → H b = some o → L2.upd H p ob b = some o := fun b o hb e => by rw [upd_ne hb]; exact e
  obtain ⟨oo, e0, pl0⟩ := f.po
  refine ⟨⟨g.len, fun i s o e1 e2 => ?_, g.sep, g.lo, fun b hb => ?_, fun b o np e nt => ?_, fun b hb => ?_, tabs_but f.g.tab e0 pl0 fr⟩, m2.trans (Mono.shrink fun a x => x.1)⟩
  · exact ((f.g.ok i s o e1 e2).other f.inn (f.no i s o e1 e2) fun b o hb e _ => fr b o hb e).shrink (f.no i s o e1 e2)
  · obtain ⟨u, e, nt⟩ := g.live b hb
    exact ⟨u, fr b u hb.2 e, nt⟩
  · exact fr b o (fun z => f.h0 ⟨o, z ▸ e, nt⟩) (g.fr b o np e nt)
  · by_cases h : b = p
    · exact ⟨_, by rw [h]; exact upd_same, hob⟩
    · obtain ⟨u, e, nt⟩ := g.pl b hb
      exact ⟨u, fr b u h e, nt⟩
theorem Hid.rebase {p : Addr} (f : Hid c Av σ H env p) : Good (blkCn c p σ H env) Av σ H env where
  len := f.g.len
  ok := fun i s o e1 e2 => by
    have k := f.g.ok i s o e1 e2
    have hn := f.no i s o e1 e2
    cases s with
    | un => trivial
    | val d => exact k
    | own ds =>
      obtain ⟨a, vs, rfl, q1, q2, q3, q4, q5⟩ := k
      exact ⟨a, vs, rfl, q1, q2, q3, .inl ⟨i, _, _, e1, e2, rfl⟩, fun z => z.elim q5 fun z => hn (by rw [← z]; rfl)⟩
    | bor a ds =>
      obtain ⟨vs, rfl, q1, q2, q3, q4⟩ := k
      exact ⟨vs, rfl, q1, q2, q3, .inl ⟨i, _, _, e1, e2, rfl⟩⟩
    | box q x =>
      obtain ⟨a, rfl, q1, q2, q3, q4⟩ := k
      exact ⟨a, rfl, q1, q2, .inl ⟨i, _, _, e1, e2, rfl⟩, q4.imp id fun y => ⟨y.1, fun z => z.elim y.2 fun z => hn (by rw [← z]; rfl)⟩⟩
  sep := f.g.sep
  lo := fun a h => h.elim (f.g.lo a) fun z => by rw [z]; exact f.inn
  live := f.g.live
  fr := fun _ _ _ e _ => e
  pl := fun a ⟨i, s, o, e1, e2, e3⟩ => f.g.live a (ownA_av e3 (f.g.ok i s o e1 e2))
  tab := f.g.tab
theorem Hid.unbase {p : Addr} {ob : HO} {σ' : L2.St} {env' : Env} (f : Hid c Av σ H env p) (hv : H p = some ob) (hnt : NT ob) (g : Good (blkCn c p σ H env) Av' σ' H' env') (m : Mono Av H Av' H') :
    Good c Av' σ' H' env' ∧ (∀ (i : Nat) s o, env'[i]? = some s → σ'[i]? = some o → ownA o s ≠ some p) ∧ Av' p ∧ H' p = some ob := by
  have hP : ∀ a, ownsAt σ env a → c.P a ∨ ¬ Sol c.H0 a := fun a ⟨i, s, o, e1, e2, e3⟩ => by
    have k := f.g.ok i s o e1 e2
    cases s with
    | un => cases o with
      | none => cases e3
      | some w => cases w <;> cases e3
    | val d => cases o with
      | none => cases e3
      | some w => cases w <;> cases e3
    | own ds =>
      obtain ⟨b, vs, rfl, q1, q2, q3, q4, q5⟩ := k
      cases e3; exact q4
    | bor b ds =>
      obtain ⟨vs, rfl, q1, q2, q3, q4⟩ := k
      cases e3; exact q4
    | box q x =>
      obtain ⟨b, rfl, q1, q2, q3, q4⟩ := k
      cases e3; exact q3
  have hp : ¬ ownsAt σ env p := fun ⟨i, s, o, e1, e2, e3⟩ => f.no i s o e1 e2 e3
  have hc : ∀ a, (ownsAt σ env a ∨ ¬ Sol H a) → c.P a ∨ ¬ Sol c.H0 a := fun a h => h.elim (hP a) fun z => .inr (f.g.freeS z)
  refine ⟨⟨g.len, fun i s o e1 e2 => ?_, g.sep, fun a h => g.lo a (.inl h), g.live, fun a o np e nt => ?_, fun a h => ?_, g.tab⟩, fun i s o e1 e2 z => ?_, g.lo p (.inr rfl), g.fr p _ hp hv hnt⟩
  · have k := g.ok i s o e1 e2
    cases s with
    | un => trivial
    | val d => exact k
    | own ds =>
      obtain ⟨a, vs, rfl, q1, q2, q3, q4, q5⟩ := k
      exact ⟨a, vs, rfl, q1, q2, q3, hc a q4, fun z => q5 (.inl z)⟩
    | bor a ds =>
      obtain ⟨vs, rfl, q1, q2, q3, q4⟩ := k
      exact ⟨vs, rfl, q1, q2, q3, hc a q4⟩
    | box q x =>
      obtain ⟨a, rfl, q1, q2, q3, q4⟩ := k
      exact ⟨a, rfl, q1, q2, hc a q3, q4.imp id fun y => ⟨y.1, fun z => y.2 (.inl z)⟩⟩
  · have e' := f.g.fr a o np e nt
    by_cases h : ownsAt σ env a
    · rcases hP a h with z | z
      · exact absurd z np
      · exact absurd ⟨o, e, nt⟩ z
    · exact g.fr a o h e' nt
  · by_cases hh : ownsAt σ env a
    · exact g.pl a hh
    · obtain ⟨u, e, nt⟩ := f.g.pl a h
      exact ⟨u, g.fr a u hh e nt, nt⟩
  · have k := g.ok i s o e1 e2
    cases s with
    | un => cases o with
      | none => cases z
      | some w => cases w <;> cases z
    | val d => cases o with
      | none => cases z
      | some w => cases w <;> cases z
    | own ds =>
      obtain ⟨a, vs', rfl, q1, q2, q3, q4, q5⟩ := k
      cases z
      exact q5 (.inr rfl)
    | bor a ds =>
      obtain ⟨vs', rfl, q1, q2, q3, q4⟩ := k
      cases z
      rcases q4 with q4 | q4
      · exact hp q4
      · exact q4 ⟨_, hv, hnt⟩
    | box q x =>
      obtain ⟨a, rfl, q1, q2, q4, q5⟩ := k
      cases z
      rcases q4 with q4 | q4
      · exact hp q4
      · exact q4 ⟨_, hv, hnt⟩
end
end DL
set_option Elab.async false
set_option linter.all false
set_option maxRecDepth 100000
set_option maxHeartbeats 4000000
namespace DL
open PySem L2

abbrev AX := Addr → D → Env → Prop
abbrev AE := Env → (D → Env → Prop) → AX → Prop
/-- an expression that makes a new list: its items -/
abbrev AF := Env → (List D → Env → Prop) → AX → Prop
/-- arguments: values, or slots whose lists are handed on -/
inductive Ag where
  | vl (d : D) | rf (i : Nat)
abbrev AA := Env → (List Ag → Env → Prop) → AX → Prop
abbrev AT := Env → (Bool → Env → Prop) → AX → Prop

/-- what an error finds that leaves an expression at the slots σ -/
def ExE {τ : TBL} (c : Cn τ) (Wx : WX) (σ : L2.St) (Av : AvS) (H : Hp) (X : AX) : Prop := ∀ C d env' Av' H' dd v, X C d env' → Good c Av' σ H' env' → Mono Av H Av' H' → H' dd = some (.xd [("value", v)]) → ¬ Av' dd → Den Av' H' v d → Wx (.ref C) (some dd) σ H'
theorem ExE.mono {τ : TBL} {c : Cn τ} {Wx : WX} {σ : L2.St} {Av Av' : AvS} {H H' : Hp} {X : AX} (h : ExE c Wx σ Av H X) (m : Mono Av H Av' H') : ExE c Wx σ Av' H' X :=
  fun C d env' Av'' H'' dd v x g m' e1 e2 e3 => h C d env' Av'' H'' dd v x g (m.trans m') e1 e2 e3
abbrev ExOk {τ : TBL} (c : Cn τ) (Wx : WX) (Av : AvS) (H : Hp) (X : AX) : Prop := ∀ σ, ExE c Wx σ Av H X
theorem ExOk.mono {τ : TBL} {c : Cn τ} {Wx : WX} {Av Av' : AvS} {H H' : Hp} {X : AX} (h : ExOk c Wx Av H X) (m : Mono Av H Av' H') : ExOk c Wx Av' H' X := fun σ => (h σ).mono m
def liftE {τ : TBL} (c : Cn τ) (Wx : WX) (w : AE) : TE := fun σ H Q => ∃ Av env Qa Xa, Good c Av σ H env ∧ w env Qa Xa ∧ (∀ d env' v Av' H', Qa d env' → Good c Av' σ H' env' → Mono Av H Av' H' → Den Av' H' v d → Q v H') ∧ ExE c Wx σ Av H Xa
def liftT {τ : TBL} (c : Cn τ) (Wx : WX) (w : AT) : TT := fun σ H Q => ∃ Av env Qa Xa, Good c Av σ H env ∧ w env Qa Xa ∧ (∀ b env' Av' H', Qa b env' → Good c Av' σ H' env' → Mono Av H Av' H' → Q b H') ∧ ExE c Wx σ Av H Xa
def liftF {τ : TBL} (c : Cn τ) (Wx : WX) (w : AF) : TE := fun σ H Q => ∃ Av env Qa Xa, Good c Av σ H env ∧ w env Qa Xa ∧ (∀ ds env' p Av' H', Qa ds env' → Fresh c Av' σ H' env' p ds → Mono Av H Av' H' → Q (.ref p) H') ∧ ExE c Wx σ Av H Xa
def AgOk (Av : AvS) (σ : L2.St) (H : Hp) (v : V) : Ag → Prop
  | .vl d => Den Av H v d
  | .rf i => σ[i]? = some (some v)
inductive AgsOk (Av : AvS) (σ : L2.St) (H : Hp) : List V → List Ag → Prop
  | nil : AgsOk Av σ H [] []
  | cons {v : V} {vs : List V} {a : Ag} {as : List Ag} : AgOk Av σ H v a → AgsOk Av σ H vs as → AgsOk Av σ H (v :: vs) (a :: as)
theorem AgsOk.mono {Av Av' : AvS} {σ : L2.St} {H H' : Hp} (m : Mono Av H Av' H') : ∀ {vs : List V} {as : List Ag}, AgsOk Av σ H vs as → AgsOk Av' σ H' vs as
  | _, _, .nil => .nil
  | _, .vl d :: _, .cons h t => .cons (Den.mono m h) (t.mono m)
  | _, .rf i :: _, .cons h t => .cons h (t.mono m)
theorem AgsOk.vals {Av : AvS} {σ : L2.St} {H : Hp} : ∀ {vs : List V} {ds : List D}, AgsOk Av σ H vs (ds.map Ag.vl) → Dens Av H vs ds
  | _, [], .nil => .nil
  | _, d :: ds, .cons h t => .cons h t.vals
def liftA {τ : TBL} (c : Cn τ) (Wx : WX) (w : AA) : TA := fun σ H Q => ∃ Av env Qa Xa, Good c Av σ H env ∧ w env Qa Xa ∧ (∀ as env' vs Av' H', Qa as env' → Good c Av' σ H' env' → Mono Av H Av' H' → AgsOk Av' σ H' vs as → Q vs H') ∧ ExE c Wx σ Av H Xa

section
variable {X : Cx} {τ : TBL} {c : Cn τ} {Wx : WX} {e a b : Expr} {pos : Pos}
theorem PE.imp {t t' : TE} (h : ∀ σ H Q, t' σ H Q → t σ H Q) (p : PE X e t) : PE X e t' := ⟨fun pins s σ H Q I q => p.run pins s σ H Q I (h σ H Q q)⟩
theorem PT.imp {t t' : TT} (h : ∀ σ H Q, t' σ H Q → t σ H Q) (p : PT X e t) : PT X e t' := ⟨fun pins s σ H Q I q => p.run pins s σ H Q I (h σ H Q q)⟩
theorem PA.imp {es : List Expr} {t t' : TA} (h : ∀ σ H Q, t' σ H Q → t σ H Q) (p : PA X es t) : PA X es t' := ⟨fun ps pins s σ H Q I q => p.run ps pins s σ H Q I (h σ H Q q)⟩

/-! ### names, constants -/
/-- a name: a value, or a list of the frame's own, which is a value from now on -/
def wVar (i : Nat) (env : Env) (Q : D → Env → Prop) (_ : AX) : Prop := match env[i]? with
  | some (.val d) => Q d env
  | some (.own ds) => Q (.lst ds) (env.set i (.val (.lst ds)))
  | _ => False
def wC (d : D) (env : Env) (Q : D → Env → Prop) (_ : AX) : Prop := Q d env
theorem a_var {i : Nat} {x : Str} (p : PE X (.Name x pos) (tVar i)) : PE X (.Name x pos) (liftE c Wx (wVar i)) := PE.imp (fun σ H Q ⟨Av, env, Qa, Xa, g, q, k, _⟩ => by
  unfold wVar at q
  split at q
  · rename_i d e
    obtain ⟨v, h1, h2⟩ := g.val e
    exact ⟨v, h1, k d env v Av H q g Mono.refl h2⟩
  · rename_i ds e
    obtain ⟨Av', g', m⟩ := g.freeze e
    obtain ⟨v, h1, h2⟩ := g'.val (i := i) (d := .lst ds) (by
      have hi : i < env.length := (List.getElem?_eq_some_iff.mp e).1
      rw [List.getElem?_set, if_pos rfl, if_pos hi])
    exact ⟨v, h1, k _ _ v Av' H q g' m h2⟩
  · exact q.elim) p
theorem a_c {v : V} {d : D} (hd : ∀ Av H, Den Av H v d) (p : PE X e (tC v)) : PE X e (liftE c Wx (wC d)) := PE.imp (fun σ H Q ⟨Av, env, Qa, Xa, g, q, k, _⟩ => k d env v Av H q g Mono.refl (hd _ _)) p
theorem a_int {i : Int} {j} : PE X (.Constant (.int i) j pos) (liftE c Wx (wC (.int i))) := a_c (fun _ _ => .int i) pe_int
theorem a_bl {i : Bool} {j} : PE X (.Constant (.bool i) j pos) (liftE c Wx (wC (.bl i))) := a_c (fun _ _ => .bl i) pe_bl
theorem a_str {i : Str} {j} : PE X (.Constant (.str i) j pos) (liftE c Wx (wC (.str i))) := a_c (fun _ _ => .str i) pe_str
theorem a_non {j} : PE X (.Constant .none j pos) (liftE c Wx (wC .non)) := a_c (fun _ _ => .non) pe_non
theorem a_globA {x : Str} {C : Addr} (p : PE X (.Name x pos) (tC (.ref C))) : PE X (.Name x pos) (liftE c Wx (wC (.atm C))) := a_c (fun _ _ => .atm C) p
theorem a_globT {x : Str} {n : String} (p : PE X (.Name x pos) (tC (.ty n))) : PE X (.Name x pos) (liftE c Wx (wC (.ty n))) := a_c (fun _ _ => .ty n) p

/-! ### a new list as a value -/
def wFv (w : AF) (env : Env) (Q : D → Env → Prop) (X : AX) : Prop := w env (fun ds env' => Q (.lst ds) env') X
theorem a_fv {w : AF} (p : PE X e (liftF c Wx w)) : PE X e (liftE c Wx (wFv w)) := PE.imp (fun σ H Q ⟨Av, env, Qa, Xa, g, q, k, x⟩ =>
  ⟨Av, env, _, Xa, g, q, fun ds env' p Av' H' q f m => k (.lst ds) env' (.ref p) (rem Av' p) H' q f.toVal.1 (m.trans f.toVal.2.2) f.toVal.2.1, x⟩) p

/-! ### two operands -/
abbrev R2D := D → D → (D → Prop) → Prop
abbrev R2F := D → D → (List D → Prop) → Prop
def Live (Av : AvS) (H : Hp) : Prop := ∀ a, Av a → Sol H a
def Grow (H H' : Hp) : Prop := ∀ a o, H a = some o → H' a = some o
theorem Grow.refl {H : Hp} : Grow H H := fun _ _ h => h
/-- an operation upon values, told by what they tell -/
def OpD (r : R2) (R : R2D) : Prop := ∀ Av H x y d1 d2 k Q, Live Av H → Den Av H x d1 → Den Av H y d2 → R d1 d2 k → (∀ d v H', k d → Grow H H' → Den Av H' v d → Q v H') → r x y H Q
def OpF (r : R2) (R : R2F) : Prop := ∀ Av H x y d1 d2 k Q, Live Av H → Den Av H x d1 → Den Av H y d2 → R d1 d2 k → (∀ ds vs p, k ds → H p = none → Dens Av H vs ds → Q (.ref p) (L2.upd H p (.lst vs))) → r x y H Q
def wOp (R : R2D) (wa wb : AE) (env : Env) (Q : D → Env → Prop) (X : AX) : Prop := wa env (fun x env1 => wb env1 (fun y env2 => R x y fun z => Q z env2) X) X
def wOpF (R : R2F) (wa wb : AE) (env : Env) (Q : List D → Env → Prop) (X : AX) : Prop := wa env (fun x env1 => wb env1 (fun y env2 => R x y fun z => Q z env2) X) X
theorem bin_lift {r : R2} {R : R2D} {wa wb : AE} (hr : OpD r R) : ∀ σ H Q, liftE c Wx (wOp R wa wb) σ H Q → tOp r (liftE c Wx wa) (liftE c Wx wb) σ H Q := by
  intro σ H Q ⟨Av, env, Qa, Xa, g, q, k, x⟩
  refine ⟨Av, env, _, Xa, g, q, fun d env' v Av1 H' q1 g1 m1 d1 => ?_, x⟩
  refine ⟨Av1, env', _, Xa, g1, q1, fun d' env'' v' Av2 H'' q2 g2 m2 d2 => ?_, x.mono m1⟩
  refine hr Av2 H'' v v' d d' _ Q g2.live (d1.mono m2) d2 q2 fun z vz Hz qz gr dz => ?_
  exact k z env'' vz Av2 Hz qz (g2.grow gr) ((m1.trans m2).trans (Mono.grow gr)) dz
theorem binF_lift {r : R2} {R : R2F} {wa wb : AE} (hr : OpF r R) : ∀ σ H Q, liftF c Wx (wOpF R wa wb) σ H Q → tOp r (liftE c Wx wa) (liftE c Wx wb) σ H Q := by
  intro σ H Q ⟨Av, env, Qa, Xa, g, q, k, x⟩
  refine ⟨Av, env, _, Xa, g, q, fun d env' v Av1 H' q1 g1 m1 d1 => ?_, x⟩
  refine ⟨Av1, env', _, Xa, g1, q1, fun d' env'' v' Av2 H'' q2 g2 m2 d2 => ?_, x.mono m1⟩
  refine hr Av2 H'' v v' d d' _ Q g2.live (d1.mono m2) d2 q2 fun ds vs p qz hp dz => ?_
  exact k ds env'' p (add Av2 p) _ qz (g2.fresh hp dz) ((m1.trans m2).trans (Mono.addNew hp))
theorem a_op {op : Operator} {r : R2} {R : R2D} {wa wb : AE} (ho : OpR X (binaryOp op) r) (hr : OpD r R) (ha : PE X a (liftE c Wx wa)) (hb : PE X b (liftE c Wx wb)) : PE X (.BinOp a op b pos) (liftE c Wx (wOp R wa wb)) := PE.imp (bin_lift hr) (pe_op ho ha hb)
theorem a_opF {op : Operator} {r : R2} {R : R2F} {wa wb : AE} (ho : OpR X (binaryOp op) r) (hr : OpF r R) (ha : PE X a (liftE c Wx wa)) (hb : PE X b (liftE c Wx wb)) : PE X (.BinOp a op b pos) (liftF c Wx (wOpF R wa wb)) := PE.imp (binF_lift hr) (pe_op ho ha hb)
theorem a_cmp {op : CmpOp} {r : R2} {R : R2D} {wa wb : AE} (ho : OpR X (compareOp op) r) (hr : OpD r R) (ha : PE X a (liftE c Wx wa)) (hb : PE X b (liftE c Wx wb)) (hm : behindInMarks op b = false) : PE X (.Compare a [op] [b] pos) (liftE c Wx (wOp R wa wb)) := PE.imp (bin_lift hr) (pe_cmpR ho ha hb hm)
def wUn (R : D → (D → Prop) → Prop) (wa : AE) (env : Env) (Q : D → Env → Prop) (X : AX) : Prop := wa env (fun x env1 => R x fun z => Q z env1) X
/-- a test that gives a bool -/
def wB (w : AE) (env : Env) (Q : Bool → Env → Prop) (X : AX) : Prop := w env (fun d env' => ∃ b, d = .bl b ∧ Q b env') X
theorem lift_wB {w : AE} {t : TE} (h : ∀ σ H Q, liftE c Wx w σ H Q → t σ H Q) : ∀ σ H Q, liftT c Wx (wB w) σ H Q → t σ H fun x H' => ∃ k, x = .bl k ∧ Q k H' := by
  intro σ H Q ⟨Av, env, Qa, Xa, g, q, k, x⟩
  refine h σ H _ ⟨Av, env, _, Xa, g, q, fun d env' v Av' H' q1 g1 m1 d1 => ?_, x⟩
  obtain ⟨b, rfl, q2⟩ := q1
  cases d1
  exact ⟨b, rfl, k b env' Av' H' q2 g1 m1⟩
theorem t_cmp {op : CmpOp} {r : R2} {R : R2D} {wa wb : AE} (ho : OpR X (compareOp op) r) (hr : OpD r R) (ha : PE X a (liftE c Wx wa)) (hb : PE X b (liftE c Wx wb)) (hm : behindInMarks op b = false) : PT X (.Compare a [op] [b] pos) (liftT c Wx (wB (wOp R wa wb))) :=
  PT.imp (lift_wB (bin_lift hr)) (pt_cmpR ho ha hb hm)
theorem t_val {w : AE} (p : PE X e (liftE c Wx w)) (h : ∀ t, PE X e t → PT X e fun σ H Q => t σ H fun x H' => ∃ k, x = .bl k ∧ Q k H') : PT X e (liftT c Wx (wB w)) := PT.imp (lift_wB fun _ _ _ z => z) (h _ p)
theorem OpD.or {r r' : R2} {R R' : R2D} (h : OpD r R) (h' : OpD r' R') : OpD (fun x y H Q => r x y H Q ∨ r' x y H Q) (fun x y k => R x y k ∨ R' x y k) := fun Av H x y d1 d2 k Q hl a b z kk => by
  rcases z with z | z
  · exact .inl (h Av H x y d1 d2 k Q hl a b z kk)
  · exact .inr (h' Av H x y d1 d2 k Q hl a b z kk)

/-! ### arguments -/
def wNil (env : Env) (Q : List Ag → Env → Prop) (_ : AX) : Prop := Q [] env
def wCons (wa : AE) (wr : AA) (env : Env) (Q : List Ag → Env → Prop) (X : AX) : Prop := wa env (fun x env1 => wr env1 (fun xs env2 => Q (.vl x :: xs) env2) X) X
def wRef (i : Nat) (wr : AA) (env : Env) (Q : List Ag → Env → Prop) (X : AX) : Prop := (∃ s ds, env[i]? = some s ∧ mutOf s = some ds) ∧ wr env (fun xs env2 => Q (.rf i :: xs) env2) X
theorem aa_nil : PA X [] (liftA c Wx wNil) := PA.imp (fun σ H Q ⟨Av, env, Qa, Xa, g, q, k, x⟩ => k [] env [] Av H q g Mono.refl .nil) pa_nil
theorem aa_cons {es : List Expr} {wa : AE} {wr : AA} (ha : PE X e (liftE c Wx wa)) (hr : PA X es (liftA c Wx wr)) (hs : starEach (e :: es) X.env = (false, eval e X.env) :: starEach es X.env := by rfl) : PA X (e :: es) (liftA c Wx (wCons wa wr)) :=
  PA.imp (fun σ H Q ⟨Av, env, Qa, Xa, g, q, k, x⟩ => by
    refine ⟨Av, env, _, Xa, g, q, fun d env' v Av1 H' q1 g1 m1 d1 => ?_, x⟩
    refine ⟨Av1, env', _, Xa, g1, q1, fun as env'' vs Av2 H'' q2 g2 m2 d2 => ?_, x.mono m1⟩
    exact k _ env'' _ Av2 H'' q2 g2 (m1.trans m2) (.cons (Den.mono m2 d1) d2)) (pa_cons ha hr hs)
theorem aa_ref {es : List Expr} {i : Nat} {x : Str} {wr : AA} (hp : PE X (.Name x pos) (tVar i)) (hr : PA X es (liftA c Wx wr)) (hs : starEach ((.Name x pos) :: es) X.env = (false, eval (.Name x pos) X.env) :: starEach es X.env := by rfl) : PA X ((.Name x pos) :: es) (liftA c Wx (wRef i wr)) :=
  PA.imp (fun σ H Q ⟨Av, env, Qa, Xa, g, ⟨⟨s, ds, e1, e2⟩, q⟩, k, x⟩ => by
    obtain ⟨a, vs, e3, _⟩ := g.mutAt e1 e2
    refine ⟨_, e3, Av, env, _, Xa, g, q, fun as env'' vs Av2 H'' q2 g2 m2 d2 => ?_, x⟩
    exact k _ env'' _ Av2 H'' q2 g2 m2 (.cons e3 d2)) (pa_cons hp hr hs)
end
end DL
set_option Elab.async false
set_option linter.all false
set_option maxRecDepth 100000
set_option maxHeartbeats 4000000
namespace DL
open PySem L2

/-! ### statements -/
structure AEnds where
  nx : Env → Prop
  rt : D → Env → Prop
  bk : Env → Prop := fun _ => False
  ct : Env → Prop := fun _ => False
  ex : AX := fun _ _ _ => False
  rf : List D → Env → Prop := fun _ _ => False
abbrev AS := Env → AEnds → Prop
structure EndsOk {τ : TBL} (c : Cn τ) (Wx : WX) (Av : AvS) (H : Hp) (A : AEnds) (D : Ends) : Prop where
  nx : ∀ env' Av' σ' H', A.nx env' → Good c Av' σ' H' env' → Mono Av H Av' H' → D.nx σ' H'
  rt : ∀ d env' Av' σ' H' v, A.rt d env' → Good c Av' σ' H' env' → Mono Av H Av' H' → Den Av' H' v d → D.rt v H'
  bk : ∀ env' Av' σ' H', A.bk env' → Good c Av' σ' H' env' → Mono Av H Av' H' → D.bk σ' H'
  ct : ∀ env' Av' σ' H', A.ct env' → Good c Av' σ' H' env' → Mono Av H Av' H' → D.ct σ' H'
  ex : ExOk c Wx Av H A.ex
  rf : ∀ ds env' Av' σ' H' p, A.rf ds env' → Fresh c Av' σ' H' env' p ds → Mono Av H Av' H' → D.rt (.ref p) H'
def liftS {τ : TBL} (c : Cn τ) (Wx : WX) (w : AS) : TS := fun D σ H => ∃ Av env A, Good c Av σ H env ∧ w env A ∧ EndsOk c Wx Av H A D
section
variable {X : Cx} {τ : TBL} {c : Cn τ} {Wx : WX} {e a b : Expr} {pos : Pos} {Av Av' : AvS} {H H' : Hp} {A : AEnds} {D₀ : Ends}
theorem EndsOk.mono (E : EndsOk c Wx Av H A D₀) (m : Mono Av H Av' H') : EndsOk c Wx Av' H' A D₀ :=
  ⟨fun env' Av'' σ' H'' q g m' => E.nx env' Av'' σ' H'' q g (m.trans m'), fun d env' Av'' σ' H'' v q g m' => E.rt d env' Av'' σ' H'' v q g (m.trans m'),
   fun env' Av'' σ' H'' q g m' => E.bk env' Av'' σ' H'' q g (m.trans m'), fun env' Av'' σ' H'' q g m' => E.ct env' Av'' σ' H'' q g (m.trans m'), E.ex.mono m, fun ds env' Av'' σ' H'' p q f m' => E.rf ds env' Av'' σ' H'' p q f (m.trans m')⟩
theorem PS.imp {st : Stmt} {t t' : TS} (h : ∀ D σ H, t' D σ H → t D σ H) (p : PS X st t) : PS X st t' := ⟨fun pins s σ H D I q => p.run pins s σ H D I (h D σ H q)⟩
theorem PSs.imp {st : List Stmt} {t t' : TS} (h : ∀ D σ H, t' D σ H → t D σ H) (p : PSs X st t) : PSs X st t' := ⟨fun pins s σ H D I q => p.run pins s σ H D I (h D σ H q)⟩
def wNext (env : Env) (A : AEnds) : Prop := A.nx env
def wSeq (w1 w2 : AS) (env : Env) (A : AEnds) : Prop := w1 env { A with nx := fun env' => w2 env' A }
theorem s_nil : PSs X [] (liftS c Wx wNext) := PSs.imp (fun D σ H ⟨Av, env, A, g, q, E⟩ => E.nx env Av σ H q g Mono.refl) pss_nil
theorem s_cons {st : Stmt} {rest : List Stmt} {w1 w2 : AS} (h1 : PS X st (liftS c Wx w1)) (h2 : PSs X rest (liftS c Wx w2)) : PSs X (st :: rest) (liftS c Wx (wSeq w1 w2)) :=
  PSs.imp (fun D σ H ⟨Av, env, A, g, q, E⟩ => ⟨Av, env, _, g, q, ⟨fun env' Av' σ' H' q' g' m' => ⟨Av', env', A, g', q', E.mono m'⟩, E.rt, E.bk, E.ct, E.ex, E.rf⟩⟩) (pss_cons h1 h2)
theorem s_one {st : Stmt} {w1 : AS} (h1 : PS X st (liftS c Wx w1)) : PSs X [st] (liftS c Wx w1) := pss_one h1
def wRet (w : AE) (env : Env) (A : AEnds) : Prop := w env A.rt A.ex
theorem s_ret {w : AE} (he : PE X e (liftE c Wx w)) : PS X (.Return (some e) pos) (liftS c Wx (wRet w)) :=
  PS.imp (fun D σ H ⟨Av, env, A, g, q, E⟩ => ⟨Av, env, _, _, g, q, fun d env' v Av' H' q' g' m' d' => E.rt d env' Av' σ H' v q' g' m' d', E.ex _⟩) (ps_ret he)
/-- return a new list -/
def wRetF (w : AF) (env : Env) (A : AEnds) : Prop := w env A.rf A.ex
theorem s_retF {w : AF} (he : PE X e (liftF c Wx w)) : PS X (.Return (some e) pos) (liftS c Wx (wRetF w)) :=
  PS.imp (fun D σ H ⟨Av, env, A, g, q, E⟩ => ⟨Av, env, _, _, g, q, fun ds env' p Av' H' q' f m' => E.rf ds env' Av' σ H' p q' f m', E.ex _⟩) (ps_ret he)
def wRetN (env : Env) (A : AEnds) : Prop := A.rt .non env
theorem s_retN : PS X (.Return none pos) (liftS c Wx wRetN) := PS.imp (fun D σ H ⟨Av, env, A, g, q, E⟩ => E.rt .non env Av σ H .non q g Mono.refl .non) ps_retN
theorem s_pass : PS X (.Pass pos) (liftS c Wx wNext) := PS.imp (fun D σ H ⟨Av, env, A, g, q, E⟩ => E.nx env Av σ H q g Mono.refl) ps_pass
def wBreak (env : Env) (A : AEnds) : Prop := A.bk env
def wCont (env : Env) (A : AEnds) : Prop := A.ct env
theorem s_break : PS X (.Break pos) (liftS c Wx wBreak) := PS.imp (fun D σ H ⟨Av, env, A, g, q, E⟩ => E.bk env Av σ H q g Mono.refl) ps_break
theorem s_cont : PS X (.Continue pos) (liftS c Wx wCont) := PS.imp (fun D σ H ⟨Av, env, A, g, q, E⟩ => E.ct env Av σ H q g Mono.refl) ps_continue
def wDrop (w : AE) (env : Env) (A : AEnds) : Prop := w env (fun _ env' => A.nx env') A.ex
theorem s_expr {w : AE} (he : PE X e (liftE c Wx w)) (hs : swapsWith e none pos.line X.env = pure false := by rfl) : PS X (.Expr e pos) (liftS c Wx (wDrop w)) :=
  PS.imp (fun D σ H ⟨Av, env, A, g, q, E⟩ => ⟨Av, env, _, _, g, q, fun d env' v Av' H' q' g' m' d' => E.nx env' Av' σ H' q' g' m', E.ex _⟩) (ps_expr he hs)
/-- a target takes what a value tells -/
abbrev AG := D → Env → (Env → Prop) → Prop
def GOk {τ : TBL} (c : Cn τ) (g : TG) (w : AG) : Prop := ∀ Av σ H env v d Qe Q, Good c Av σ H env → Den Av H v d → w d env Qe → (∀ env' Av' σ' H', Qe env' → Good c Av' σ' H' env' → Mono Av H Av' H' → Q σ' H') → g v σ H Q
def gN (i : Nat) (d : D) (env : Env) (Q : Env → Prop) : Prop := Q (env.set i (.val d))
theorem gok_name {i : Nat} : GOk c (gName i) (gN i) := fun Av σ H env v d Qe Q g hd q k => k _ Av _ H q (g.setVal hd i) Mono.refl
def wAsg (w : AE) (g : AG) (env : Env) (A : AEnds) : Prop := w env (fun d env' => g d env' A.nx) A.ex
def wSet (i : Nat) (w : AE) (env : Env) (A : AEnds) : Prop := w env (fun d env' => A.nx (env'.set i (.val d))) A.ex
theorem asg_lift {w : AE} {g : TG} {wg : AG} (hg : GOk c g wg) : ∀ D σ H, liftS c Wx (wAsg w wg) D σ H → tAsg (liftE c Wx w) g D σ H := fun D σ H ⟨Av, env, A, gd, q, E⟩ =>
  ⟨Av, env, _, _, gd, q, fun d env' v Av' H' q' g' m' d' => hg Av' σ H' env' v d _ _ g' d' q' fun env'' Av'' σ'' H'' q'' g'' m'' => E.nx env'' Av'' σ'' H'' q'' g'' (m'.trans m''), E.ex _⟩
theorem s_asg {tg : Expr} {w : AE} {g : TG} {wg : AG} (p : ∀ te, PE X e te → PS X (.Assign [tg] e pos) (tAsg te g)) (hg : GOk c g wg) (he : PE X e (liftE c Wx w)) : PS X (.Assign [tg] e pos) (liftS c Wx (wAsg w wg)) := PS.imp (asg_lift hg) (p _ he)
theorem s_set {i : Nat} {x : Str} {pos' : Pos} {w : AE} (hN : X.N.Nodup) (hi : X.N[i]? = some x) (hx : Loc X.env.scope x) (he : PE X e (liftE c Wx w)) (hs : swapsWith e (some (.Name x pos')) pos.line X.env = pure false := by rfl) (hf : X.fn x = true ∨ X.env.scope.names.lookup x = some .local := by first | exact .inl rfl | exact .inr rfl | assumption) :
    PS X (.Assign [.Name x pos'] e pos) (liftS c Wx (wSet i w)) := PS.imp (asg_lift (wg := gN i) gok_name) (ps_set hN hi hx he hs hf)
/-- a name takes a new list: the frame's own -/
def wSetF (i : Nat) (w : AF) (env : Env) (A : AEnds) : Prop := w env (fun ds env' => A.nx (env'.set i (.own ds))) A.ex
theorem s_setF {i : Nat} {x : Str} {pos' : Pos} {w : AF} (hN : X.N.Nodup) (hi : X.N[i]? = some x) (hx : Loc X.env.scope x) (he : PE X e (liftF c Wx w)) (hs : swapsWith e (some (.Name x pos')) pos.line X.env = pure false := by rfl) (hf : X.fn x = true ∨ X.env.scope.names.lookup x = some .local := by first | exact .inl rfl | exact .inr rfl | assumption) :
    PS X (.Assign [.Name x pos'] e pos) (liftS c Wx (wSetF i w)) := PS.imp (fun D σ H ⟨Av, env, A, g, q, E⟩ =>
      ⟨Av, env, _, _, g, q, fun ds env' p Av' H' q' f m' => E.nx _ Av' _ H' q' (f.toOwn i) m', E.ex _⟩) (ps_set hN hi hx he hs hf)
def wIf (t : AT) (w1 w2 : AS) (env : Env) (A : AEnds) : Prop := t env (fun b env' => if b = true then w1 env' A else w2 env' A) A.ex
theorem s_if {t : AT} {s1 s2 : List Stmt} {w1 w2 : AS} (ht : PT X e (liftT c Wx t)) (h1 : PSs X s1 (liftS c Wx w1)) (h2 : PSs X s2 (liftS c Wx w2)) : PS X (.If e s1 s2 pos) (liftS c Wx (wIf t w1 w2)) :=
  PS.imp (fun D σ H ⟨Av, env, A, g, q, E⟩ => ⟨Av, env, _, _, g, q, fun b env' Av' H' q' g' m' => by
    cases b with
    | true => exact ⟨Av', env', A, g', q', E.mono m'⟩
    | false => exact ⟨Av', env', A, g', q', E.mono m'⟩, E.ex _⟩) (ps_if ht h1 h2)

/-! ### what is walked -/
structure ItD (Av1 : AvS) (H1 : Hp) (J : It) (ds : List D) : Prop where
  go : ∀ (i : Nat) d Av H, ds[i]? = some d → Live Av H → Mono Av1 H1 Av H → J.go i H ∧ ∀ x H', J.yld i H x H' → Grow H H' ∧ Den Av H' x d
  stop : ∀ Av H, Mono Av1 H1 Av H → J.stop ds.length H
abbrev AI := Env → (List D → Env → Prop) → AX → Prop
def liftI {τ : TBL} (c : Cn τ) (Wx : WX) (w : AI) : TI := fun σ H R => ∃ Av env Qa Xa, Good c Av σ H env ∧ w env Qa Xa ∧ (∀ ds env' Av' H' J, Qa ds env' → Good c Av' σ H' env' → Mono Av H Av' H' → ItD Av' H' J ds → R J H') ∧ ExE c Wx σ Av H Xa
theorem PI.imp {tg iter : Expr} {t t' : TI} (h : ∀ σ H Q, t' σ H Q → t σ H Q) (p : PI X tg iter t) : PI X tg iter t' := ⟨fun pins s σ H Q I q => p.run pins s σ H Q I (h σ H Q q)⟩
theorem PI.or {tg iter : Expr} {t t' : TI} (p : PI X tg iter t) (p' : PI X tg iter t') : PI X tg iter (fun σ H R => t σ H R ∨ t' σ H R) := ⟨fun pins s σ H Q I q => by
  rcases q with q | q
  · exact p.run pins s σ H Q I q
  · exact p'.run pins s σ H Q I q⟩
theorem rd_inj {a : Addr} {o u : HO} (h : Rd H a o) (h' : Rd H a u) (hf : ∀ x y, o ≠ .frz x y) (hf' : ∀ x y, u ≠ .frz x y) : o = u := by
  rcases h with h | ⟨ob, h⟩ <;> rcases h' with h' | ⟨ob', h'⟩
  · rw [h] at h'; exact Option.some.inj h'
  · rw [h] at h'; exact absurd (Option.some.inj h') (hf _ _)
  · rw [h] at h'; exact absurd (Option.some.inj h').symm (hf' _ _)
  · rw [h] at h'; cases h'; rfl

theorem itd_list {K : PySem.W.Frag} {a : Addr} {vs : List V} {ds : List D} (h : Rd H a (.lst vs)) (na : ¬ Av a) (q : Dens Av H vs ds) : ItD Av H (Itl K a) ds where
  go := fun i d Av1 H1 e hl m => by
    obtain ⟨v, e1, e2⟩ := q.get e
    have r : SqL K H1 a vs := .inl (m.rd na h nt_lst).1
    refine ⟨⟨vs, v, r, e1⟩, fun x H' y => ?_⟩
    obtain ⟨rfl, y⟩ := y
    have e3 := y vs r
    rw [e1] at e3; cases e3
    exact ⟨Grow.refl, e2.mono m⟩
  stop := fun Av1 H1 m => ⟨vs, .inl (m.rd na h nt_lst).1, Nat.le_of_eq q.length⟩
theorem itd_tup {K : PySem.W.Frag} {a : Addr} {vs : List V} {ds : List D} (h : Rd H a (.tup vs)) (na : ¬ Av a) (q : Dens Av H vs ds) : ItD Av H (Itt K a) ds where
  go := fun i d Av1 H1 e hl m => by
    obtain ⟨v, e1, e2⟩ := q.get e
    have r : SqT K H1 a vs := .inl (m.rd na h nt_tup).1
    refine ⟨⟨vs, v, r, e1⟩, fun x H' y => ?_⟩
    obtain ⟨rfl, y⟩ := y
    have e3 := y vs r
    rw [e1] at e3; cases e3
    exact ⟨Grow.refl, e2.mono m⟩
  stop := fun Av1 H1 m => ⟨vs, .inl (m.rd na h nt_tup).1, Nat.le_of_eq q.length⟩
def wIn (w : AE) (env : Env) (Q : List D → Env → Prop) (X : AX) : Prop := w env (fun d env' => match d with
  | .lst ds => Q ds env'
  | .tup ds => Q ds env'
  | _ => False) X
def iSeq (K : PySem.W.Frag) (tl : TE) : TI := fun σ H R => tl σ H fun x H1 => ∃ a, x = .ref a ∧ (((∃ xs, SqL K H1 a xs) ∧ R (Itl K a) H1) ∨ ((∃ xs, SqT K H1 a xs) ∧ R (Itt K a) H1))
theorem pi_seq {tg l : Expr} {tl : TE} (hl : PE X l tl) : PI X tg l (iSeq X.K tl) := by
  refine ⟨fun pins s σ H R I h => ?_⟩
  refine thn (hl.run pins s σ H _ I h) fun v s1 ⟨x, H1, I1, rx, a, ex, q⟩ => ?_
  subst ex
  cases rx
  rcases q with ⟨⟨xs, hS⟩, q⟩ | ⟨⟨xs, hS⟩, q⟩
  · obtain ⟨its, rv, p, hz⟩ := I1.list hS
    refine wpAny_pyIter_list p.isList ?_
    refine ⟨s1.heap.objs.size, [s1.heap.objs.size], _, _, H1, rfl, I1.kept (t' := s1.toks) fun b o e => Heap.get?_push_of_some _ e, turn_list a _, ⟨_, Heap.get?_push_size _ rfl, rfl, rfl⟩, fun b hb => ?_, q⟩
    have e : b = s1.heap.objs.size := by simpa using hb
    subst e
    exact I1.fpOk (Nat.le_refl _) (I1.hok.fresh (Nat.le_refl _))
  · obtain ⟨its, rv, p, hz⟩ := I1.tuple hS
    refine wpAny_pyIter_tuple (show s1.heap.IsTuple a its.toArray from p) ?_
    refine ⟨s1.heap.objs.size, [s1.heap.objs.size], _, _, H1, rfl, I1.kept (t' := s1.toks) fun b o e => Heap.get?_push_of_some _ e, turn_tuple a _, ⟨_, Heap.get?_push_size _ rfl, rfl, rfl⟩, fun b hb => ?_, q⟩
    have e : b = s1.heap.objs.size := by simpa using hb
    subst e
    exact I1.fpOk (Nat.le_refl _) (I1.hok.fresh (Nat.le_refl _))
theorem i_in {tg l : Expr} {w : AE} (hl : PE X l (liftE c Wx w)) : PI X tg l (liftI c Wx (wIn w)) := PI.imp (fun σ H R ⟨Av, env, Qa, Xa, g, q, k, x⟩ =>
  ⟨Av, env, _, Xa, g, q, fun d env' v Av' H' q' g' m' d' => by
    cases d' with
    | lst h na ds => exact ⟨_, rfl, .inl ⟨⟨_, .inl (.inl h)⟩, k _ env' Av' H' _ q' g' m' (itd_list (.inl h) na ds)⟩⟩
    | scr => exact q'.elim
    | scrK => exact q'.elim
    | tup h na ds => exact ⟨_, rfl, .inr ⟨⟨_, .inl h⟩, k _ env' Av' H' _ q' g' m' (itd_tup h na ds)⟩⟩
    | non => exact q'.elim
    | bl => exact q'.elim
    | int => exact q'.elim
    | str => exact q'.elim
    | ty => exact q'.elim
    | atm => exact q'.elim
    | dic => exact q'.elim
    | ins => exact q'.elim
    | err => exact q'.elim
    | errK => exact q'.elim, x⟩) (pi_seq hl)
/-- range(a), range(a, b) -/
def intsFrom (lo : Int) : Nat → List D
  | 0 => []
  | n + 1 => .int lo :: intsFrom (lo + 1) n
theorem intsFrom_len : ∀ (n : Nat) (lo : Int), (intsFrom lo n).length = n
  | 0, _ => rfl
  | n + 1, lo => by rw [intsFrom, List.length_cons, intsFrom_len]
theorem intsFrom_get : ∀ (n : Nat) (lo : Int) (i : Nat) (d : D), (intsFrom lo n)[i]? = some d → i < n ∧ d = .int (lo + i)
  | 0, _, _, _, e => by simp [intsFrom] at e
  | n + 1, lo, 0, d, e => by simp [intsFrom] at e; subst e; exact ⟨Nat.succ_pos _, by simp⟩
  | n + 1, lo, i + 1, d, e => by
    obtain ⟨h1, h2⟩ := intsFrom_get n (lo + 1) i d (by simpa [intsFrom] using e)
    refine ⟨Nat.succ_lt_succ h1, ?_⟩
    rw [h2]
    congr 1
    omega
theorem itd_range {lo : Int} {n : Nat} : ItD Av H (Itr lo n) (intsFrom lo n) where
  go := fun i d Av1 H1 e hl m => by
    obtain ⟨h1, h2⟩ := intsFrom_get n lo i d e
    refine ⟨h1, fun x H' y => ?_⟩
    obtain ⟨rfl, rfl⟩ := y
    subst h2
    exact ⟨Grow.refl, .int _⟩
  stop := fun Av1 H1 m => by rw [intsFrom_len]; exact Nat.le_refl _
def wRange (w : AA) (env : Env) (Q : List D → Env → Prop) (X : AX) : Prop := w env (fun as env' => match as with
  | [.vl (.int n)] => (-(2 ^ 62) ≤ n ∧ n < 2 ^ 62) ∧ Q (intsFrom 0 n.toNat) env'
  | [.vl (.int m), .vl (.int n)] => (-(2 ^ 62) ≤ m ∧ m < 2 ^ 62 ∧ -(2 ^ 62) ≤ n ∧ n < 2 ^ 62) ∧ Q (intsFrom m (n - m).toNat) env'
  | _ => False) X
theorem i_range1 {tg a : Expr} {p : Pos} {w : AA} (hg : Gl X "range") (hm : X.mg "range" = none) (ha : PA X [a] (liftA c Wx w)) (hs : starEach [a] X.env = [(false, eval a X.env)] := by rfl) : PI X tg (.Call (.Name "range" p) [a] [] pos) (liftI c Wx (wRange fun env Q Z => w env (fun as env' => ∃ n, as = [.vl n] ∧ Q as env') Z)) :=
  PI.imp (fun σ H R ⟨Av, env, Qa, Xa, g, q, k, x⟩ => ⟨Av, env, _, Xa, g, q, fun as env' vs Av' H' q' g' m' d' => by
    obtain ⟨n, rfl, q'⟩ := q'
    cases d' with
    | cons h1 h2 =>
      cases h2
      cases n with
      | int n =>
        cases h1
        exact ⟨n, rfl, q'.1.1, q'.1.2, k _ env' Av' H' _ q'.2 g' m' itd_range⟩
      | _ => exact q'.elim, x⟩) (pi_range1 hg hm ha hs)
theorem i_range2 {tg a b : Expr} {p : Pos} {w : AA} (hg : Gl X "range") (hm : X.mg "range" = none) (ha : PA X [a, b] (liftA c Wx w)) (hs : starEach [a, b] X.env = [(false, eval a X.env), (false, eval b X.env)] := by rfl) (hs2 : starEach [b] X.env = [(false, eval b X.env)] := by rfl) : PI X tg (.Call (.Name "range" p) [a, b] [] pos) (liftI c Wx (wRange fun env Q Z => w env (fun as env' => ∃ m n, as = [.vl m, .vl n] ∧ Q as env') Z)) :=
  PI.imp (fun σ H R ⟨Av, env, Qa, Xa, g, q, k, x⟩ => ⟨Av, env, _, Xa, g, q, fun as env' vs Av' H' q' g' m' d' => by
    obtain ⟨m, n, rfl, q'⟩ := q'
    cases d' with
    | cons h1 h2 =>
      cases h2 with
      | cons h3 h4 =>
        cases h4
        cases m with
        | int m =>
          cases n with
          | int n =>
            cases h1
            cases h3
            exact ⟨m, n, rfl, q'.1, k _ env' Av' H' _ q'.2 g' m' itd_range⟩
          | _ => exact q'.elim
        | _ => cases n <;> exact q'.elim, x⟩) (pi_range2 hg hm ha hs hs2)
/-- for -/
def wFor (wi : AI) (g : AG) (wb : AS) (env : Env) (A : AEnds) : Prop := wi env (fun ds env1 => ∃ Inv : Nat → Env → Prop, Inv 0 env1 ∧
  (∀ (i : Nat) d env', ds[i]? = some d → Inv i env' → g d env' fun env2 => wb env2 { A with nx := Inv (i + 1), ct := Inv (i + 1), bk := A.nx }) ∧ ∀ env', Inv ds.length env' → A.nx env') A.ex
theorem s_for {tg iter : Expr} {body : List Stmt} {wi : AI} {g : TG} {wg : AG} {wb : AS} (hp : PassesOwn (model X.prog X.w) X.A X.env X.xe) (hc : X.calm = true) (hi : PI X tg iter (liftI c Wx wi)) (hg : PG X tg g) (hw : GOk c g wg) (hb : PSs X body (liftS c Wx wb)) (hfs : ∀ x, foldedSetIterable iter X.env x = pure x := by first | exact fun _ => rfl | (intro _; rfl)) :
    PS X (.For tg iter body [] pos) (liftS c Wx (wFor wi wg wb)) := PS.imp (fun D σ H ⟨Av, env, A, gd, q, E⟩ => ⟨Av, env, _, _, gd, q, fun ds env1 Av1 H1 J q1 g1 m1 it => by
      obtain ⟨Inv, i0, is, id⟩ := q1
      refine ⟨fun i m σ' H' => m = ds.length - i ∧ i ≤ ds.length ∧ ∃ env' Av', Inv i env' ∧ Good c Av' σ' H' env' ∧ Mono Av1 H1 Av' H', ⟨_, rfl, Nat.zero_le _, env1, Av1, i0, g1, Mono.refl⟩, ?_⟩
      rintro i m σ' H' ⟨rfl, hi, env', Av', iv, g', m'⟩
      by_cases hlt : i < ds.length
      · obtain ⟨j1, j2⟩ := it.go i ds[i] Av' H' (List.getElem?_eq_getElem hlt) g'.live m'
        refine .inr ⟨j1, fun σ'' H'' => i + 1 ≤ ds.length ∧ ∃ env' Av', Inv (i + 1) env' ∧ Good c Av' σ'' H'' env' ∧ Mono Av1 H1 Av' H'', fun σ'' H'' ⟨h1, h2⟩ => ⟨ds.length - (i + 1), by omega, rfl, h1, h2⟩, fun x Hx y => ?_⟩
        obtain ⟨gr, dx⟩ := j2 x Hx y
        refine hw Av' σ' Hx env' x ds[i] _ _ (g'.grow gr) dx (is i ds[i] env' (List.getElem?_eq_getElem hlt) iv) fun env2 Av2 σ2 H2 q2 g2 m2 => ?_
        have m3 : Mono Av1 H1 Av2 H2 := (m'.trans (Mono.grow gr)).trans m2
        refine ⟨Av2, env2, _, g2, q2, ⟨fun env3 Av3 σ3 H3 q3 g3 m4 => ⟨hlt, env3, Av3, q3, g3, m3.trans m4⟩, fun d env3 Av3 σ3 H3 v q3 g3 m4 => E.rt d env3 Av3 σ3 H3 v q3 g3 ((m1.trans m3).trans m4),
          fun env3 Av3 σ3 H3 q3 g3 m4 => E.nx env3 Av3 σ3 H3 q3 g3 ((m1.trans m3).trans m4), fun env3 Av3 σ3 H3 q3 g3 m4 => ⟨hlt, env3, Av3, q3, g3, m3.trans m4⟩, E.ex.mono (m1.trans m3), fun ds env3 Av3 σ3 H3 pp q3 f3 m4 => E.rf ds env3 Av3 σ3 H3 pp q3 f3 ((m1.trans m3).trans m4)⟩⟩
      · have e : i = ds.length := by omega
        subst e
        exact .inl ⟨it.stop Av' H' m', E.nx env' Av' σ' H' (id env' iv) g' (m1.trans m')⟩, E.ex _⟩) (ps_for hp hc hi hg hb hfs)
end
end DL
set_option Elab.async false
set_option linter.all false
set_option maxRecDepth 100000
set_option maxHeartbeats 4000000
/-! A def's promise where nothing is being shown (no repr is under way around the call): what HandS' FnOk says, for such surroundings alone. -/
namespace DL
open PySem PySem.Spec PyProof.Rows L2
/-- nothing is being shown -/
abbrev Calm (A : Around) : Prop := A.guards = some []
/-- the same, where it is wanted -/
abbrev CalmB (cal : Bool) (A : Around) : Prop := cal = true → Calm A
structure FnG (P : Program) (w : World) (K : PySem.W.Frag) (mg : Str → Option Value) (base : Heap) (cal : Bool) (k : Nat) (f : Addr) (fd : FuncData) (ps : List Str) (sp : Sp) : Prop where
  len : ∀ vs H Q E, sp vs H Q E → vs.length = ps.length
  run : ∀ (A : Around), Room k A → CalmB cal A → ∀ (below : List PySem.Env) (s : Shared) (H : Hp), Env0 P w K mg base A below s H → ∀ (gs : Args) (us : List Value) (vs : List V), BindsTo s fd gs (ps.zip us) → Vals vs us →
    ∀ (Q : VK) (E : XK), sp vs H Q E → codeAny (model P w) A (.call (.ref f) gs) (CR (L2.CX P w) below P w H s Q E) s
section
variable {cal : Bool} {P : Program} {w : World} {K : PySem.W.Frag} {mg : Str → Option Value} {base : Heap} {k : Nat} {f : Addr} {fd : FuncData} {ps N : List Str} {sp : Sp} {x qual : Str} {st : Stmt}
theorem FnG.mono {j : Nat} (F : FnG P w K mg base cal j f fd ps sp) (h : j ≤ k) : FnG P w K mg base cal k f fd ps sp := ⟨F.len, fun A hr => F.run A (hr.mono h)⟩
theorem FnG.imp {sp' : Sp} (F : FnG P w K mg base cal k f fd ps sp) (h : ∀ vs H Q E, sp' vs H Q E → sp vs H Q E) : FnG P w K mg base cal k f fd ps sp' :=
  ⟨fun vs H Q E q => F.len vs H Q E (h _ _ _ _ q), fun A hr hG below s H e0 gs us vs hb hv Q E q => F.run A hr hG below s H e0 gs us vs hb hv Q E (h _ _ _ _ q)⟩
/-- where a body ends, the call ends -/
theorem ends_call {qual : Str} {sc : Scope} {cdv : Value} {A : Around} {below : List PySem.Env} {s s' : Shared} {H : Hp} {Q : VK} {E : XK} {fl : Flow}
    (q : SP (cxOf (L2.CX P w) P w K mg base N qual sc f cdv A below s H E) [] { nx := fun _ H' => Q .non H', rt := Q } fl s') : CR (L2.CX P w) below P w H s Q E (match fl with | .ret u => .ok (.ret u) | _ => .ok (.ret .none)) s' := by
  cases fl with
  | ret u =>
    obtain ⟨v, σ', H', J, rv, q⟩ := q
    exact ⟨v, H', J.os, J.bare, J.base, J.hok, rv, q⟩
  | next =>
    obtain ⟨σ', H', J, q⟩ := q
    exact ⟨.non, H', J.os, J.bare, J.base, J.hok, rfl, q⟩
  | brk => exact (let ⟨_, _, _, z⟩ := q; z.elim)
  | cont => exact (let ⟨_, _, _, z⟩ := q; z.elim)
theorem FnG.body (F : Fun K x qual st f fd) (S : FnScope N ps (defScope st)) (hl : ∀ vs H Q E, sp vs H Q E → vs.length = ps.length)
    (hb : ∀ (cdv : Value) (A : Around) (below : List PySem.Env) (s : Shared) (H : Hp) (vs : List V) (Q : VK) (E : XK), Room k (A.deeper (PyProof.Rows.envOfC qual (defScope st) s.heap.objs.size f cdv)) → CalmB cal A → fd.code = cdv → sp vs H Q E →
      ∃ t, PSs (cxOf (L2.CX P w) P w K mg base N qual (defScope st) f cdv A below s H E) (defBody st) t ∧ t { nx := fun _ H' => Q .non H', rt := Q } (L2.start N vs) H) : FnG P w K mg base cal (k + 1) f fd ps sp := by
  obtain ⟨oc, od, kV, doc, pm, an, cdv, ct, osl, rfl, lk, hcd⟩ := F.ex
  refine ⟨hl, fun A hr hG below s H e0 gs us vs bind rel Q E q => ?_⟩
  have up : ∀ b o, base.get? b = some o → s.heap.get? b = some o := fun b o e => (e0.bs b o e).1
  have par : ∀ y ∈ ps.zip us, (defScope st).names.lookup y.1 = some .local ∨ ((defScope st).names.lookup y.1 = some .cell ∧ ((cellsFrom (s.heap.objs.size + 1) (defScope st).names []).lookup y.1).isSome = true) := by
    rintro ⟨n, v⟩ hy
    exact (S.par n (List.of_mem_zip hy).1).imp id fun z => ⟨z, PySem.W.cellsFrom_some _ _ _ (.inl z)⟩
  refine codeAny_call_function hr.depth ((e0.mod.kin.keeps up) _ _ lk) rfl S.co S.gen rfl (PySem.W.codeRec_of (e0.mod.kin.keeps up) hcd) (bind _ _ _ _ (wpAny_newFunctionEnv_cells S.kind par fun env he s1 ic => ?_))
  subst he
  obtain ⟨t, ht, q'⟩ := hb cdv A below s H vs Q E (hr.deeper _) hG rfl q
  refine ⟨(e0.mod.nolimit.keeps up).keeps ic.toInCall.keep, codeAny_func (wpAny_mono (ht.run [] s1 (L2.start N vs) H _ (inv_start S hr.hd e0 (hl _ _ _ _ q) rel ic) q') (fun fl s' z => ?_) fun _ _ z => z)⟩
  have z' := ends_call z
  cases fl with
  | ret u => exact z'
  | next => exact z'
  | brk => exact (let ⟨_, _, _, y⟩ := z; y.elim)
  | cont => exact (let ⟨_, _, _, y⟩ := z; y.elim)
end
section
variable {cal : Bool} {X : Cx} {k : Nat} {f C : Addr} {fd : FuncData} {ps : List Str} {sp : Sp} {x : Str} {p pos : Pos} {e : Expr} {es : List Expr} {t : TA} {W : WX}
/-- behind a callee -/
theorem back_to {pins : List (Addr × Obj)} {σ : L2.St} {H : Hp} {s s' : Shared} {Q : VK} {r : Result} (tk : Takes X W) (I : Inv X pins σ H s) (h : CR (L2.CX X.prog X.w) X.stack X.prog X.w H s Q (fun cls d H' => W cls d σ H') r s') :
    (∃ u, r = .ok (.ret u) ∧ EP X pins σ Q u s') ∨ ∃ er, r = .error er ∧ X.xe er s' := by
  cases r with
  | error er => exact .inr ⟨er, rfl, passAt tk σ pins H s er s' I h⟩
  | ok fl =>
    cases fl with
    | ret u => exact .inl ⟨u, rfl, I.after h⟩
    | next => exact False.elim h
    | brk => exact False.elim h
    | cont => exact False.elim h
theorem runG {pins : List (Addr × Obj)} {σ : L2.St} {H : Hp} {s : Shared} {Q : VK} {us : List Value} {vs : List V} (F : FnG X.prog X.w X.K X.mg X.base cal k f fd ps sp) (hr : Room k X.A) (hG : CalmB cal X.A) (hb : Binds X.K fd ps []) (tk : Takes X W) (I : Inv X pins σ H s) (r : Vals vs us)
    (h : sp vs H Q fun cls d H' => W cls d σ H') : wpAny (model X.prog X.w) X.A (call (.ref f) us) (EP X pins σ Q) X.xe s := by
  have hl : (us ++ []).length = ps.length := by rw [List.append_nil, ← r.length]; exact F.len _ _ _ _ h
  have bd := hb s us I.kIn hl
  rw [List.append_nil] at bd
  refine wpAny_call (codeAny_mono (F.run X.A hr hG X.stack s H I.env0 ⟨us, []⟩ us vs bd r Q _ h) fun res s' z => ?_)
  rcases back_to tk I z with ⟨u, rfl, z1⟩ | ⟨er, rfl, z1⟩
  · exact z1
  · exact z1
def tCallG (sp : Sp) (W : WX) (t : TA) : TE := fun σ H Q => t σ H fun vs H1 => sp vs H1 Q fun cls d H' => W cls d σ H'
theorem pe_callG (F : FnG X.prog X.w X.K X.mg X.base cal k f fd ps sp) (hr : Room k X.A) (hG : CalmB cal X.A) (hg : Gl X x) (hm : X.mg x = some (.ref f)) (hk : PySem.W.keepIn X.K (.ref f) = true) (hb : Binds X.K fd ps []) (tk : Takes X W)
    (ha : PA X (e :: es) t) (hdb : (x == ("__debug__" : Str)) = false := by decide) (he : starEach (e :: es) X.env = (false, eval e X.env) :: starEach es X.env := by rfl) (hpl : (backTo pos (starEach es X.env)).any (·.1) = false := by rfl) :
    PE X (.Call (.Name x p) (e :: es) [] pos) (tCallG sp W t) := ⟨fun pins s σ H Q I h =>
      wpAny_Call_Name_kw (ld_glob I hg hm (PySem.W.callWith_K (h₀ := X.base) I.ok.mod.kin hk (thn (ha.run pos pins s σ H _ I h) fun us s1 ⟨vs, H1, I1, r, q⟩ => ⟨I1.kIn, runG F hr hG hb tk I1 r q⟩) he hpl) hdb)⟩
end
/-- the modules' table stands in the base -/
def SysB (base : Heap) : Prop := ∃ o, base.get? sysModules = some o
/-- the law's own call -/
theorem law_callG {P : Program} {w : World} {K : PySem.W.Frag} {mg mb : Str → Option Value} {k : Nat} {fa a : Addr} {fd : FuncData} {x : Str} {sp : Sp} {s₁ : Shared} {vs : List Value} {ns : List Int}
    (KX : K.In s₁.heap) (hns : s₁.heap.Ns mainGlobals mg) (hb : s₁.heap.Ns builtinsNs mb) (hbb : ∀ x : Str, x ≠ "__name__" → mb x = bootBuiltins x) (hlim : s₁.heap.NoLimit) (hg : s₁.gens = #[])
    (ha : s₁.heap.get? a = some { cls := .type "list", data := .seq vs.toArray }) (hi : IntsAre vs ns) (hl : ns.length ≤ sizeLine) (hr : Room k callerA)
    (hsy : ∃ mm, s₁.heap.Ns sysModules mm) (F : ∀ base : Heap, K.In base → base.Ns mainGlobals mg → SysB base → FnG P w K mg base true k fa fd [x] sp) (hbind : ∀ (s : Shared) (u : Value), BindsTo s fd ⟨[u], []⟩ [(x, u)])
    (hsp : ∀ H : Hp, Only H → SqL K H a (ns.map V.int) → sp [.ref a] H (fun v _ => v = .bl true) fun _ _ _ => False) :
    codeAny (model P w) callerA (.call (.ref fa) ⟨[.ref a], []⟩) (fun r s' => r = .ok (.ret (.bool true)) ∧ OldK s₁.heap s'.heap ∧ s'.os = s₁.os ∧ AllBare s'.gens) s₁ := by
  have isD : ∀ {b : Addr} {m : Str → Option Value}, s₁.heap.Ns b m → b ≠ a := by
    rintro b m ⟨o, es, ep, e, d, _⟩ rfl
    rw [ha] at e
    cases e
    have d' : Data.seq vs.toArray _ = Data.dict es ep := d
    cases d'
  -- H: what is tracked at the entry, the script at most
  have go : ∀ H : Hp, Only H → SqL K H a (ns.map V.int) → HOk P w H s₁.heap → (∀ b, b ≠ a → H b = none) → (K.lookup a ≠ none → H a = none) → codeAny (model P w) callerA (.call (.ref fa) ⟨[.ref a], []⟩) (fun r s' => r = .ok (.ret (.bool true)) ∧ OldK s₁.heap s'.heap ∧ s'.os = s₁.os ∧ AllBare s'.gens) s₁ := by
    intro H hO hS hok hne hKa
    have nsH : ∀ {b : Addr} {m : Str → Option Value}, s₁.heap.Ns b m → (hidT s₁.heap H).Ns b m := fun {b m} n => let ⟨o, es, ep, e, r⟩ := n; ⟨o, es, ep, hidT_get e (hne b (isD n)), r⟩
    have inK : K.In (hidT s₁.heap H) := fun b o e => by
      refine hidT_get (KX b o e) ?_
      by_cases h : b = a
      · subst h
        exact hKa (by rw [e]; simp)
      · exact hne b h
    have e0 : Env0 P w K mg (hidT s₁.heap H) callerA [] s₁ H := ⟨rfl, ⟨inK, nsH hns, ⟨mb, nsH hb, hbb⟩, let ⟨mc, h1, h2⟩ := hlim; ⟨mc, nsH h1, h2⟩⟩, fun b o e => of_hidT e, Nat.le_of_eq (hidT_size _ _), trivial, (fun b z => nomatch z), hok, .of_eq hg⟩
    refine codeAny_mono ((F _ inK (nsH hns) (let ⟨mm, n⟩ := hsy; let ⟨o, _, _, e, _⟩ := nsH n; ⟨o, e⟩)).run callerA hr (fun _ => rfl) [] s₁ H e0 ⟨[.ref a], []⟩ [.ref a] [.ref a] (hbind s₁ (.ref a)) (.cons rfl .nil) _ _ (hsp H hO hS)) fun r s' h => ?_
    cases r with
    | error er =>
      obtain ⟨_, _, _, _, _, _, _, _, _, _, _, _, z⟩ := h
      exact z.elim
    | ok fl =>
      cases fl with
      | ret u =>
        obtain ⟨v, H', os, bare, un, hok', rv, (q : v = .bl true)⟩ := h
        subst q
        have eu : u = Value.bool true := rv
        subst eu
        refine ⟨rfl, OldK.of_keep fun b o e => ?_, os, bare⟩
        rcases hO b with z | ⟨ob, xs, z⟩
        · exact un.keep b o e z (fun y => nomatch y) (fun y => nomatch y)
        · have e1 := (hok b _ z).1
          have e2 := (hok' b _ (un.frzs b ob _ z)).1
          rw [e] at e1; cases e1
          exact e2
      | next => exact False.elim h
      | brk => exact False.elim h
      | cont => exact False.elim h
  have rv := vals_ints hi
  cases hk : K.lookup a with
  | some o =>
    have e := KX a o hk
    rw [ha] at e
    cases e
    exact go (fun _ => none) (fun _ => .inl rfl) (.inr ⟨_, vs.toArray, _, hk, rfl, rfl, rfl, by rw [List.size_toArray, hi.length]; exact hl, by simpa using rv⟩) (fun b u z => nomatch z) (fun _ _ => rfl) fun _ => rfl
  | none =>
    have sc : ∀ b, (if b = a then some (HO.frz { cls := .type "list", data := .seq vs.toArray } (.lst (ns.map V.int))) else none) = none ∨ b = a := fun b => by
      by_cases h : b = a
      · exact .inr h
      · exact .inl (if_neg h)
    refine go (fun b => if b = a then some (.frz { cls := .type "list", data := .seq vs.toArray } (.lst (ns.map V.int))) else none) (fun b => ?_) (.inl (.inr ⟨_, if_pos rfl⟩)) (fun b u z => ?_) (fun b h => if_neg h) fun z => absurd hk z
    · rcases sc b with h | rfl
      · exact .inl h
      · exact .inr ⟨_, _, if_pos rfl⟩
    · rcases sc b with h | rfl
      · have z' := h.symm.trans z
        cases z'
      · have z' := (if_pos rfl).symm.trans z
        cases z'
        exact ⟨ha, by rw [List.length_map]; exact hl, vs, _, rv, ha⟩
theorem walk_ofG {l : PySem.W.OpenLaw} {n k : Nat} {q : Program} {loose : List Str} {XP : (Str → Option Value) → Heap → Prop} {YP : World → Heap → Prop} {d : DefRec} {K : Params → PySem.W.Frag} {sp : World → Sp} {x : Str}
    (hn : l.most = some n) (hn2 : n ≤ sizeLine) (hdf : d.params.defaults = []) (hr : Room k callerA) (hi : importsNone q = true) (hY : ∀ (w : World) (h : Heap), YP w h → (K w.params).In h)
    (F : ∀ (w : World) (mg : Str → Option Value) (fa : Addr) (h : Heap), (K w.params).In h → h.Ns mainGlobals mg → mg d.name = some (.ref fa) →
      ∃ fd : FuncData, (∀ (s : Shared) (u : Value), BindsTo s fd ⟨[u], []⟩ [(x, u)]) ∧ ∀ base : Heap, (K w.params).In base → base.Ns mainGlobals mg → SysB base → FnG l.prog w (K w.params) mg base true k fa fd [x] (sp w))
    (hsp : ∀ (w : World) (H : Hp) (a : Addr) (ns : List Int), ns.length ≤ n → Only H → SqL (K w.params) H a (ns.map V.int) → sp w [.ref a] H (fun v _ => v = .bl true) fun _ _ _ => False) :
    PySem.W.WalkO q loose XP YP l.row.toRowW d [] (fun f vs => PySem.call f vs) := by
  refine Att.attach_call hn hdf fun w s₀ s₁ mg mb fa o pm cd doc a vs ns G Y ho hd hcd hmg hobj hints hlen hg => ?_
  obtain ⟨fd, hb, hF⟩ := F w mg fa _ (hY w _ Y) G.T.g hmg
  exact law_callG (hY w _ Y) G.T.g G.T.b G.T.builtins G.T.nolimit hg hobj hints (Nat.le_trans hlen hn2) hr (let ⟨mm, n, _⟩ := (G.T.seer hi).mods; ⟨mm, n⟩) hF hb fun H hO hS => hsp w H a ns hlen hO hS
end DL
set_option Elab.async false
set_option linter.all false
set_option maxRecDepth 100000
set_option maxHeartbeats 4000000
namespace DL
open PySem L2

/-! ### what a def promises: its arguments (a list that it may change told apart), what follows its answer, what follows its error -/
abbrev Con := List D → List D → (D → List D → Prop) → (Addr → D → Prop) → Prop
/-- the arguments as they stand in a heap; mi: which of them may be changed -/
structure ArgsD (mi : Option Nat) (Av : AvS) (H : Hp) (vs : List V) (ds : List D) (a : Addr) (m : List D) : Prop where
  len : vs.length = ds.length
  vals : ∀ (i : Nat) v d, mi ≠ some i → vs[i]? = some v → ds[i]? = some d → Den Av H v d
  mt : ∀ j, mi = some j → vs[j]? = some (.ref a) ∧ Av a ∧ ∃ ws, H a = some (.lst ws) ∧ Dens Av H ws m
  nm : mi = none → m = []
def passed (mi : Option Nat) (a : Addr) : AvS := fun b => mi.isSome = true ∧ b = a
def FrP (P : AvS) (H H' : Hp) : Prop := ∀ a o, ¬ P a → H a = some o → NT o → H' a = some o
def spOf (τ : TBL) (n : Nat) (mi : Option Nat) (con : Con) : Sp := fun vs H Q E => ∃ Av ds a m Qd Xd, vs.length = n ∧ LamX.Tabs τ H ∧ Live Av H ∧ ArgsD mi Av H vs ds a m ∧ con ds m Qd Xd ∧
  (∀ d m' v H', Qd d m' → Den Av H' v d → (∀ j, mi = some j → ∃ ws, H' a = some (.lst ws) ∧ Dens Av H' ws m') → FrP (passed mi a) H H' → LamX.Tabs τ H' → Q v H') ∧
  (∀ C d dd v H', Xd C d → H' dd = some (.xd [("value", v)]) → ¬ Av dd → Den Av H' v d → (∀ j, mi = some j → ∃ ws, H' a = some (.lst ws) ∧ Dens Av H' ws m) → FrP (passed mi a) H H' → LamX.Tabs τ H' → E (.ref C) (some dd) H')

def agDs : List Ag → List D
  | [] => []
  | .vl d :: as => d :: agDs as
  | .rf _ :: as => .non :: agDs as
def agR : List Ag → Nat → List (Nat × Nat)
  | [], _ => []
  | .vl _ :: as, n => agR as (n + 1)
  | .rf i :: as, n => (n, i) :: agR as (n + 1)
def wCon (mi : Option Nat) (con : Con) (as : List Ag) (env1 : Env) (Q : D → Env → Prop) (X : AX) : Prop :=
  match agR as 0, mi with
  | [], none => con (agDs as) [] (fun d _ => Q d env1) (fun C d => X C d env1)
  | [(j, i)], some j' => j = j' ∧ ∃ s m, env1[i]? = some s ∧ mutOf s = some m ∧ con (agDs as) m (fun d m' => Q d (env1.set i (setMut s m'))) (fun C d => X C d env1)
  | _, _ => False
def wCall (n : Nat) (mi : Option Nat) (con : Con) (w : AA) (env : Env) (Q : D → Env → Prop) (X : AX) : Prop := w env (fun as env1 => as.length = n ∧ wCon mi con as env1 Q X) X

section
variable {Av Av' : AvS} {H H' : Hp} {σ : L2.St} {τ : TBL} {c : Cn τ} {env : Env}
theorem Dens.getBoth : ∀ {vs : List V} {ds : List D} {i : Nat} {v : V} {d : D}, Dens Av H vs ds → vs[i]? = some v → ds[i]? = some d → Den Av H v d
  | _, _, _, _, _, .nil, e, _ => by simp at e
  | _, _, 0, _, _, .cons h _, e, e' => by simp at e e'; subst e; subst e'; exact h
  | _, _, i + 1, _, _, .cons _ t, e, e' => Dens.getBoth (i := i) t (by simpa using e) (by simpa using e')
theorem agDs_len : ∀ as : List Ag, (agDs as).length = as.length
  | [] => rfl
  | .vl d :: as => by rw [agDs, List.length_cons, List.length_cons, agDs_len as]
  | .rf i :: as => by rw [agDs, List.length_cons, List.length_cons, agDs_len as]
theorem AgsOk.length : ∀ {vs : List V} {as : List Ag}, AgsOk Av σ H vs as → vs.length = (agDs as).length
  | _, _, .nil => rfl
  | _, .vl d :: _, .cons _ t => by rw [List.length_cons, agDs, List.length_cons, t.length]
  | _, .rf i :: _, .cons _ t => by rw [List.length_cons, agDs, List.length_cons, t.length]
theorem agR_none : ∀ {vs : List V} {as : List Ag} {n : Nat}, agR as n = [] → AgsOk Av σ H vs as → Dens Av H vs (agDs as)
  | _, [], _, _, .nil => .nil
  | _, .vl d :: as, n, e, .cons h t => .cons h (agR_none (n := n + 1) e t)
theorem agR_one : ∀ {vs : List V} {as : List Ag} {n j i : Nat}, agR as n = [(j, i)] → AgsOk Av σ H vs as → n ≤ j ∧ (∃ v, vs[j - n]? = some v ∧ σ[i]? = some (some v)) ∧ ∀ (l : Nat) v d, l ≠ j - n → vs[l]? = some v → (agDs as)[l]? = some d → Den Av H v d
  | _, .vl d :: as, n, j, i, e, .cons h t => by
    obtain ⟨h1, ⟨v, h2, h3⟩, h4⟩ := agR_one (n := n + 1) e t
    refine ⟨by omega, ⟨v, ?_, h3⟩, fun l w d' hl e1 e2 => ?_⟩
    · have : j - n = (j - (n + 1)) + 1 := by omega
      rw [this]; simpa using h2
    · cases l with
      | zero =>
        simp [agDs] at e1 e2
        subst e1; subst e2
        exact h
      | succ l => exact h4 l w d' (by omega) (by simpa using e1) (by simpa [agDs] using e2)
  | _, .rf i' :: as, n, j, i, e, .cons h t => by
    have e' : (n, i') :: agR as (n + 1) = [(j, i)] := e
    rw [List.cons.injEq, Prod.mk.injEq] at e'
    obtain ⟨⟨rfl, rfl⟩, e2⟩ := e'
    refine ⟨Nat.le_refl _, ⟨_, by simp, h⟩, fun l w d' hl e1 e3 => ?_⟩
    cases l with
    | zero => simp at hl
    | succ l => exact (agR_none e2 t).getBoth (by simpa using e1) (by simpa [agDs] using e3)
/-- the frame ahead of a call, behind it -/
theorem Good.after (g : Good c Av σ H env) (fr : FrP (fun _ => False) H H') (tb : LamX.Tabs τ H') : Good c Av σ H' env := g.kept (fun a o e nt => fr a o (fun z => z) e nt) tb
/-- a call: what its promise asks is told by the arguments -/
theorem call_core {n : Nat} {mi : Option Nat} {con : Con} {as : List Ag} {vs : List V} {Qa : D → Env → Prop} {Xa : AX} {Q : VK} {Wx : WX} {Av0 : AvS} {H0 : Hp} (hn : vs.length = n) (g : Good c Av σ H env) (m0 : Mono Av0 H0 Av H) (ha : AgsOk Av σ H vs as) (q : wCon mi con as env Qa Xa)
    (k : ∀ d env' v Av' H', Qa d env' → Good c Av' σ H' env' → Mono Av0 H0 Av' H' → Den Av' H' v d → Q v H') (x : ExE c Wx σ Av0 H0 Xa) : spOf τ n mi con vs H Q (fun cls d H' => Wx cls d σ H') := by
  unfold wCon at q
  split at q
  · rename_i e
    refine ⟨Av, agDs as, 0, [], _, _, hn, g.tab, g.live, ⟨ha.length, fun i v d _ e1 e2 => (agR_none e ha).getBoth e1 e2, (fun j z => nomatch z), (fun _ => rfl)⟩, q, fun d m' v H' q' d' _ fr tb => ?_, fun C d dd v H' q' e1 e2 e3 _ fr tb => ?_⟩
    · have g' := g.after (H' := H') (fun a o _ e nt => fr a o (fun z => nomatch z.1) e nt) tb
      exact k d env v Av H' q' g' (m0.trans (Mono.kept fun a o e nt => fr a o (fun z => nomatch z.1) e nt)) d'
    · have g' := g.after (H' := H') (fun a o _ e nt => fr a o (fun z => nomatch z.1) e nt) tb
      exact x C d env Av H' dd v q' g' (m0.trans (Mono.kept fun a o e nt => fr a o (fun z => nomatch z.1) e nt)) e1 e2 e3
  · rename_i j i j' e
    obtain ⟨rfl, s, m, e1, e2, q⟩ := q
    obtain ⟨_, ⟨v, h2, h3⟩, h4⟩ := agR_one e ha
    obtain ⟨a, ws, h5, av, h6, h7, h8⟩ := g.mutAt e1 e2
    rw [h3] at h5; cases h5
    have back : ∀ H' ws' m', H' a = some (.lst ws') → Dens Av H' ws' m' → FrP (passed (some j) a) H H' → LamX.Tabs τ H' → Good c Av σ H' (env.set i (setMut s m')) ∧ Mono Av H Av H' := by
      intro H' ws' m' e3 e4 fr tb
      exact g.mutTo e1 e2 h3 e3 e4 (fun b o hb e nt => fr b o (fun z => hb z.2) e nt) tb
    refine ⟨Av, agDs as, a, m, _, _, hn, g.tab, g.live, ⟨ha.length, fun l w d hl e3 e4 => h4 l w d (fun z => hl (by rw [z]; simp)) e3 e4, fun l z => ?_, fun z => nomatch z⟩, q, fun d m' v H' q' d' mt fr tb => ?_, fun C d dd v H' q' e3 e4 e5 mt fr tb => ?_⟩
    · cases z
      exact ⟨by simpa using h2, av, ws, h6, h7⟩
    · obtain ⟨ws', e3, e4⟩ := mt j rfl
      obtain ⟨g', m'⟩ := back H' ws' _ e3 e4 fr tb
      exact k d _ v Av H' q' g' (m0.trans m') d'
    · obtain ⟨ws', e6, e7⟩ := mt j rfl
      obtain ⟨g', m'⟩ := back H' ws' _ e6 e7 fr tb
      have es : env.set i (setMut s m) = env := by
        have : setMut s m = s := by
          cases s with
          | un => rfl
          | val d => rfl
          | own ds => cases e2; rfl
          | bor b ds => cases e2; rfl
          | box q x => rfl
        rw [this]
        exact List.ext_getElem? fun l => by
          rw [List.getElem?_set]
          by_cases hl : i = l
          · subst hl
            rw [if_pos rfl, if_pos (List.getElem?_eq_some_iff.mp e1).1, e1]
          · rw [if_neg hl]
      rw [es] at g'
      exact x C d env Av H' dd v q' g' (m0.trans m') e3 e4 e5
  · exact q.elim
end
section
variable {cal : Bool} {X : Cx} {τ : TBL} {c : Cn τ} {Wx : WX} {e a b : Expr} {es : List Expr} {pos p : Pos} {k n : Nat} {f : Addr} {fd : FuncData} {ps : List Str} {x : Str} {mi : Option Nat} {con : Con} {w : AA}
theorem a_call (F : FnG X.prog X.w X.K X.mg X.base cal k f fd ps (spOf τ n mi con)) (hr : Room k X.A) (hG : CalmB cal X.A) (hg : Gl X x) (hm : X.mg x = some (.ref f)) (hk : PySem.W.keepIn X.K (.ref f) = true) (hb : Binds X.K fd ps []) (tk : Takes X Wx) (ha : PA X (e :: es) (liftA c Wx w))
    (hdb : (x == ("__debug__" : Str)) = false := by decide) (he : starEach (e :: es) X.env = (false, eval e X.env) :: starEach es X.env := by rfl) (hpl : (backTo pos (starEach es X.env)).any (·.1) = false := by rfl) :
    PE X (.Call (.Name x p) (e :: es) [] pos) (liftE c Wx (wCall n mi con w)) := PE.imp (fun σ H Q ⟨Av, env, Qa, Xa, g, q, k, x⟩ =>
      ⟨Av, env, _, Xa, g, q, fun as env' vs Av' H' ⟨hl, q'⟩ g' m' d' => call_core (by rw [d'.length]; exact (agDs_len as).trans hl) g' m' d' q' k x, x⟩) (pe_callG F hr hG hg hm hk hb tk ha hdb he hpl)
end
/-! ### a def keeps its promise by its body -/
def parm (mi : Option Nat) (a : Addr) (m : List D) : Nat → List D → Env
  | _, [] => []
  | j, d :: ds => (if mi = some j then Sl.bor a m else Sl.val d) :: parm mi a m (j + 1) ds
def env0 (n : Nat) (mi : Option Nat) (a : Addr) (m : List D) (ds : List D) : Env := parm mi a m 0 ds ++ List.replicate (n - ds.length) .un
theorem parm_len (mi : Option Nat) (a : Addr) (m : List D) : ∀ (j : Nat) (ds : List D), (parm mi a m j ds).length = ds.length
  | _, [] => rfl
  | j, d :: ds => by rw [parm, List.length_cons, List.length_cons, parm_len]
theorem parm_get (mi : Option Nat) (a : Addr) (m : List D) : ∀ (j : Nat) (ds : List D) (i : Nat) (s : Sl), (parm mi a m j ds)[i]? = some s → ∃ d, ds[i]? = some d ∧ s = if mi = some (j + i) then Sl.bor a m else Sl.val d
  | _, [], i, s, e => by simp [parm] at e
  | j, d :: ds, 0, s, e => by simp [parm] at e; exact ⟨d, rfl, by rw [← e]; simp⟩
  | j, d :: ds, i + 1, s, e => by
    obtain ⟨d', h1, h2⟩ := parm_get mi a m (j + 1) ds i s (by simpa [parm] using e)
    exact ⟨d', by simpa using h1, by rw [h2, show j + 1 + i = j + (i + 1) by omega]⟩
/-- what the body must do: from its arguments, to what the promise lets follow -/
def bodyEnds (mi : Option Nat) (a : Addr) (m : List D) (Qd : D → List D → Prop) (Xd : Addr → D → Prop) : AEnds where
  rt := fun d env' => match mi with
    | none => Qd d []
    | some j => ∃ m', env'[j]? = some (.bor a m') ∧ Qd d m'
  nx := fun env' => match mi with
    | none => Qd .non []
    | some j => ∃ m', env'[j]? = some (.bor a m') ∧ Qd .non m'
  ex := fun C d env' => match mi with
    | none => Xd C d
    | some j => env'[j]? = some (.bor a m) ∧ Xd C d
theorem start_get {N : List Str} {vs : List V} {i : Nat} {o : Option V} (e : (L2.start N vs)[i]? = some o) : (∃ v, vs[i]? = some v ∧ o = some v) ∨ (vs.length ≤ i ∧ o = none) := by
  unfold L2.start at e
  by_cases h : i < vs.length
  · rw [List.getElem?_append_left (by simpa using h), List.getElem?_map] at e
    cases q : vs[i]? with
    | none => rw [q] at e; cases e
    | some v => rw [q] at e; cases e; exact .inl ⟨v, rfl, rfl⟩
  · rw [List.getElem?_append_right (by simpa using h), List.getElem?_replicate] at e
    split at e
    · cases e; exact .inr ⟨by omega, rfl⟩
    · cases e
theorem start_good {τ : TBL} {N : List Str} {vs : List V} {ds : List D} {mi : Option Nat} {Av : AvS} {H : Hp} {a : Addr} {m : List D} {n : Nat} (hl : vs.length = n) (hN : n ≤ N.length) (tab : LamX.Tabs τ H) (live : Live Av H) (ad : ArgsD mi Av H vs ds a m) : Good (τ := τ) ⟨H, Av, passed mi a⟩ Av (L2.start N vs) H (env0 N.length mi a m ds) := by
  have dl : ds.length = n := by rw [← ad.len, hl]
  have slot : ∀ (i : Nat) s' o, (env0 N.length mi a m ds)[i]? = some s' → (L2.start N vs)[i]? = some o → (s' = .un) ∨ ∃ d v, ds[i]? = some d ∧ vs[i]? = some v ∧ o = some v ∧ s' = if mi = some i then Sl.bor a m else Sl.val d := by
    intro i s' o e1 e2
    unfold env0 at e1
    by_cases h : i < ds.length
    · rw [List.getElem?_append_left (by rw [parm_len]; exact h)] at e1
      obtain ⟨d, h1, h2⟩ := parm_get mi a m 0 ds i s' e1
      rcases start_get e2 with ⟨v, h3, h4⟩ | ⟨h3, _⟩
      · exact .inr ⟨d, v, h1, h3, h4, by rw [h2]; simp⟩
      · omega
    · rw [List.getElem?_append_right (by rw [parm_len]; omega), List.getElem?_replicate] at e1
      split at e1
      · cases e1; exact .inl rfl
      · cases e1
  constructor
  · unfold env0 L2.start
    simp [parm_len]
    omega
  · intro i s' o e1 e2
    rcases slot i s' o e1 e2 with rfl | ⟨d, v, h1, h2, rfl, rfl⟩
    · trivial
    · by_cases hm : mi = some i
      · rw [if_pos hm]
        obtain ⟨h3, h4, ws, h5, h6⟩ := ad.mt i hm
        rw [h2] at h3; cases h3
        exact ⟨ws, rfl, h4, h5, h6, .inl ⟨by rw [hm]; rfl, rfl⟩⟩
      · rw [if_neg hm]
        exact ⟨v, rfl, ad.vals i v d hm h2 h1⟩
  · intro i j s' t o p b hij e1 e2 e3 e4 h1 h2
    have key : ∀ (l : Nat) s' o, (env0 N.length mi a m ds)[l]? = some s' → (L2.start N vs)[l]? = some o → ownA o s' = some b → mi = some l := by
      intro l s' o e1 e2 h1
      rcases slot l s' o e1 e2 with rfl | ⟨d, v, q1, q2, rfl, rfl⟩
      · cases o with
        | none => cases h1
        | some w => cases w <;> cases h1
      · by_cases hm : mi = some l
        · exact hm
        · rw [if_neg hm] at h1
          cases v <;> cases h1
    have z1 := key i s' o e1 e3 h1
    have z2 := key j t p e2 e4 h2
    rw [z1] at z2
    exact hij (Option.some.inj z2)
  · exact fun b hb => hb
  · exact live
  · exact fun b o _ e _ => e
  · rintro b ⟨h1, rfl⟩
    obtain ⟨j, hj⟩ := Option.isSome_iff_exists.mp h1
    obtain ⟨_, _, ws, h5, _⟩ := ad.mt j hj
    exact ⟨_, h5, nt_lst⟩
  · exact tab
theorem fn_A {τ : TBL} {cal : Bool} {P : Program} {w : World} {K : PySem.W.Frag} {mg : Str → Option Value} {base : Heap} {x qual : Str} {st : Stmt} {f : Addr} {fd : FuncData} {N ps : List Str} {k n : Nat} {mi : Option Nat} {con : Con} (F : Fun K x qual st f fd) (S : FnScope N ps (defScope st)) (hn : ps.length = n) (hN : n ≤ N.length)
    (body : ∀ (cdv : Value) (A : Around) (outer : List PySem.Env) (s : Shared) (H : Hp) (E : XK) (c : Cn τ), Room k (A.deeper (PyProof.Rows.envOfC qual (defScope st) s.heap.objs.size f cdv)) → CalmB cal A → fd.code = cdv →
      ∃ W, PSs (cxOf (L2.CX P w) P w K mg base N qual (defScope st) f cdv A outer s H E) (defBody st) (liftS c (fun cls d _ H' => E cls d H') W) ∧
        ∀ a ds m Qd Xd, ds.length = n → (mi = none → m = []) → con ds m Qd Xd → W (env0 N.length mi a m ds) (bodyEnds mi a m Qd Xd)) :
    FnG P w K mg base cal (k + 1) f fd ps (spOf τ n mi con) := by
  refine FnG.body F S (fun vs H Q E h => ?_) (fun cdv A outer s H vs Q E hr hG hcv h => ?_)
  · obtain ⟨_, _, _, _, _, _, h, _⟩ := h
    rw [h, hn]
  · obtain ⟨Av, ds, a, m, Qd, Xd, hl, tab, live, ad, q, k1, k2⟩ := h
    obtain ⟨W, hW, hb⟩ := body cdv A outer s H E ⟨H, Av, passed mi a⟩ hr hG hcv
    refine ⟨_, hW, Av, env0 N.length mi a m ds, bodyEnds mi a m Qd Xd, ?_, hb a ds m Qd Xd (by rw [← ad.len, hl]) ad.nm q, ?_⟩
    · exact start_good hl hN tab live ad
    · have fr : ∀ {Av' : AvS} {σ' : L2.St} {H' : Hp} {env' : Env}, Good (τ := τ) ⟨H, Av, passed mi a⟩ Av' σ' H' env' → FrP (passed mi a) H H' := fun g => g.fr
      have am : ∀ {Av' : AvS} {σ' : L2.St} {H' : Hp} {env' : Env} {j : Nat} {m' : List D}, Good (τ := τ) ⟨H, Av, passed mi a⟩ Av' σ' H' env' → env'[j]? = some (.bor a m') → ∃ ws, H' a = some (.lst ws) ∧ Dens Av H' ws m' := fun g e => by
        obtain ⟨o, _, vs, _, _, h1, h2, _⟩ := g.slot e
        exact ⟨vs, h1, h2.mono (Mono.shrink g.lo)⟩
      constructor
      · intro env' Av' σ' H' q' g' m'
        cases mi with
        | none => exact k1 .non [] .non H' q' .non (fun j z => nomatch z) (fr g') g'.tab
        | some j =>
          obtain ⟨m'', e, q''⟩ := q'
          exact k1 .non m'' .non H' q'' .non (fun j' z => by cases z; exact am g' e) (fr g') g'.tab
      · intro d env' Av' σ' H' v q' g' m' d'
        have d'' : Den Av H' v d := d'.mono (Mono.shrink g'.lo)
        cases mi with
        | none => exact k1 d [] v H' q' d'' (fun j z => nomatch z) (fr g') g'.tab
        | some j =>
          obtain ⟨m'', e, q''⟩ := q'
          exact k1 d m'' v H' q'' d'' (fun j' z => by cases z; exact am g' e) (fr g') g'.tab
      · exact fun _ _ _ _ q' => q'.elim
      · exact fun _ _ _ _ q' => q'.elim
      · intro σ' C d env' Av' H' dd v q' g' m' e1 e2 e3
        have d'' : Den Av H' v d := e3.mono (Mono.shrink g'.lo)
        have n' : ¬ Av dd := fun z => e2 (g'.lo dd z)
        cases mi with
        | none => exact k2 C d dd v H' q' e1 n' d'' (fun j z => nomatch z) (fr g') g'.tab
        | some j =>
          obtain ⟨e, q''⟩ := q'
          exact k2 C d dd v H' q'' e1 n' d'' (fun j' z => by cases z; exact am g' e) (fr g') g'.tab
      · exact fun _ _ _ _ _ _ q' => q'.elim


/-! ### defs whose answer is a new list -/
abbrev ConF := List D → List D → (List D → List D → Prop) → (Addr → D → Prop) → Prop
def spOfF (τ : TBL) (n : Nat) (mi : Option Nat) (con : ConF) : Sp := fun vs H Q E => ∃ Av ds a m Qd Xd, vs.length = n ∧ LamX.Tabs τ H ∧ Live Av H ∧ ArgsD mi Av H vs ds a m ∧ con ds m Qd Xd ∧
  (∀ es m' p ws H', Qd es m' → ¬ Sol H p → H' p = some (.lst ws) → Dens (add Av p) H' ws es → (∀ j, mi = some j → ∃ ws, H' a = some (.lst ws) ∧ Dens (add Av p) H' ws m') → FrP (passed mi a) H H' → LamX.Tabs τ H' → Q (.ref p) H') ∧
  (∀ C d dd v H', Xd C d → H' dd = some (.xd [("value", v)]) → ¬ Av dd → Den Av H' v d → (∀ j, mi = some j → ∃ ws, H' a = some (.lst ws) ∧ Dens Av H' ws m) → FrP (passed mi a) H H' → LamX.Tabs τ H' → E (.ref C) (some dd) H')
def wConF (mi : Option Nat) (con : ConF) (as : List Ag) (env1 : Env) (Q : List D → Env → Prop) (X : AX) : Prop :=
  match agR as 0, mi with
  | [], none => con (agDs as) [] (fun d _ => Q d env1) (fun C d => X C d env1)
  | [(j, i)], some j' => j = j' ∧ ∃ s m, env1[i]? = some s ∧ mutOf s = some m ∧ con (agDs as) m (fun d m' => Q d (env1.set i (setMut s m'))) (fun C d => X C d env1)
  | _, _ => False
def wCallF (n : Nat) (mi : Option Nat) (con : ConF) (w : AA) (env : Env) (Q : List D → Env → Prop) (X : AX) : Prop := w env (fun as env1 => as.length = n ∧ wConF mi con as env1 Q X) X
def without (H : Hp) (p : Addr) : Hp := fun b => if b = p then none else H b
theorem without_same {H : Hp} {p : Addr} : without H p p = none := if_pos rfl
theorem without_ne {H : Hp} {p b : Addr} (h : b ≠ p) : without H p b = H b := if_neg h
theorem upd_without {H : Hp} {p : Addr} {o : HO} (h : H p = some o) : L2.upd (without H p) p o = H := by
  funext b
  by_cases e : b = p
  · rw [e, upd_same, h]
  · rw [upd_ne e, without_ne e]
theorem Mono.without {Av : AvS} {H : Hp} {p : Addr} : Mono (add Av p) H Av (DL.without H p) := ⟨fun a h => .inl (.inl h), fun a o na e _ => by rw [without_ne (fun z => na (.inr z))]; exact e⟩
section
variable {Av Av' : AvS} {H H' : Hp} {σ : L2.St} {τ : TBL} {c : Cn τ} {env : Env}
/-- a new list that a call hands out -/
theorem Good.handed {p : Addr} {ws : List V} {es : List D} (g : Good c Av σ (DL.without H p) env) (h : H p = some (.lst ws)) (d : Dens (add Av p) H ws es) : Fresh c (add Av p) σ H env p es := by
  have f := g.fresh (p := p) without_same (d.mono Mono.without)
  rw [upd_without h] at f
  exact f
theorem call_coreF {n : Nat} {mi : Option Nat} {con : ConF} {as : List Ag} {vs : List V} {Qa : List D → Env → Prop} {Xa : AX} {Q : VK} {Wx : WX} {Av0 : AvS} {H0 : Hp} (hn : vs.length = n) (g : Good c Av σ H env) (m0 : Mono Av0 H0 Av H) (ha : AgsOk Av σ H vs as) (q : wConF mi con as env Qa Xa)
    (k : ∀ es env' p Av' H', Qa es env' → Fresh c Av' σ H' env' p es → Mono Av0 H0 Av' H' → Q (.ref p) H') (x : ExE c Wx σ Av0 H0 Xa) : spOfF τ n mi con vs H Q (fun cls d H' => Wx cls d σ H') := by
  unfold wConF at q
  split at q
  · rename_i e
    refine ⟨Av, agDs as, 0, [], _, _, hn, g.tab, g.live, ⟨ha.length, fun i v d _ e1 e2 => (agR_none e ha).getBoth e1 e2, (fun j z => nomatch z), (fun _ => rfl)⟩, q, fun es m' p ws H' q' hp h1 h2 _ fr tb => ?_, fun C d dd v H' q' e1 e2 e3 _ fr tb => ?_⟩
    · have gw : ∀ a o, H a = some o → NT o → DL.without H' p a = some o := fun a o e nt => by
        rw [without_ne (Sol.ne ⟨o, e, nt⟩ hp)]
        exact fr a o (fun z => nomatch z.1) e nt
      have f := Good.handed (g.kept gw (tabs_but tb h1 pla_lst fun b u hb e => by rw [without_ne hb]; exact e)) h1 h2
      exact k es env p (add Av p) H' q' f (m0.trans ⟨fun a h => h.elim .inl fun z => .inr (by rw [z]; exact hp), fun a o na e nt => fr a o (fun z => nomatch z.1) e nt⟩)
    · have g' := g.after (H' := H') (fun a o _ e nt => fr a o (fun z => nomatch z.1) e nt) tb
      exact x C d env Av H' dd v q' g' (m0.trans (Mono.kept fun a o e nt => fr a o (fun z => nomatch z.1) e nt)) e1 e2 e3
  · rename_i j i j' e
    obtain ⟨rfl, s, m, e1, e2, q⟩ := q
    obtain ⟨_, ⟨v, h2, h3⟩, h4⟩ := agR_one e ha
    obtain ⟨a, ws, h5, av, h6, h7, h8⟩ := g.mutAt e1 e2
    rw [h3] at h5; cases h5
    refine ⟨Av, agDs as, a, m, _, _, hn, g.tab, g.live, ⟨ha.length, fun l w d hl e3 e4 => h4 l w d (fun z => hl (by rw [z]; simp)) e3 e4, fun l z => ?_, fun z => nomatch z⟩, q, fun es m' p ws' H' q' hp g1 g2 mt fr tb => ?_, fun C d dd v H' q' e3 e4 e5 mt fr tb => ?_⟩
    · cases z
      exact ⟨by simpa using h2, av, ws, h6, h7⟩
    · obtain ⟨ws2, e3, e4⟩ := mt j rfl
      have hap : a ≠ p := fun z => hp ⟨_, z ▸ h6, nt_lst⟩
      have fr' : ∀ b o, b ≠ a → H b = some o → NT o → DL.without H' p b = some o := fun b o hb e nt => by
        rw [without_ne (Sol.ne ⟨o, e, nt⟩ hp)]
        exact fr b o (fun z => hb z.2) e nt
      obtain ⟨gg, mm⟩ := g.mutTo e1 e2 h3 (H' := DL.without H' p) (by rw [without_ne hap]; exact e3) (e4.mono Mono.without) fr' (tabs_but tb g1 pla_lst fun b u hb e => by rw [without_ne hb]; exact e)
      have f := Good.handed gg g1 g2
      refine k es _ p (add Av p) H' q' f (m0.trans ⟨fun b h => h.elim .inl fun z => .inr (by rw [z]; exact hp), fun b o na e nt => fr b o (fun z => na (by rw [z.2]; exact av)) e nt⟩)
    · obtain ⟨ws', e6, e7⟩ := mt j rfl
      obtain ⟨g', m'⟩ := g.mutTo e1 e2 h3 e6 e7 (fun b o hb e nt => fr b o (fun z => hb z.2) e nt) tb
      have es : env.set i (setMut s m) = env := by
        have : setMut s m = s := by
          cases s with
          | un => rfl
          | val d => rfl
          | own ds => cases e2; rfl
          | bor b ds => cases e2; rfl
          | box q x => rfl
        rw [this]
        exact List.ext_getElem? fun l => by
          rw [List.getElem?_set]
          by_cases hl : i = l
          · subst hl
            rw [if_pos rfl, if_pos (List.getElem?_eq_some_iff.mp e1).1, e1]
          · rw [if_neg hl]
      rw [es] at g'
      exact x C d env Av H' dd v q' g' (m0.trans m') e3 e4 e5
  · exact q.elim
end
section
variable {cal : Bool} {X : Cx} {τ : TBL} {c : Cn τ} {Wx : WX} {e a b : Expr} {es : List Expr} {pos p : Pos} {k n : Nat} {f : Addr} {fd : FuncData} {ps : List Str} {x : Str} {mi : Option Nat} {con : ConF} {w : AA}
theorem a_callF (F : FnG X.prog X.w X.K X.mg X.base cal k f fd ps (spOfF τ n mi con)) (hr : Room k X.A) (hG : CalmB cal X.A) (hg : Gl X x) (hm : X.mg x = some (.ref f)) (hk : PySem.W.keepIn X.K (.ref f) = true) (hb : Binds X.K fd ps []) (tk : Takes X Wx) (ha : PA X (e :: es) (liftA c Wx w))
    (hdb : (x == ("__debug__" : Str)) = false := by decide) (he : starEach (e :: es) X.env = (false, eval e X.env) :: starEach es X.env := by rfl) (hpl : (backTo pos (starEach es X.env)).any (·.1) = false := by rfl) :
    PE X (.Call (.Name x p) (e :: es) [] pos) (liftF c Wx (wCallF n mi con w)) := PE.imp (fun σ H Q ⟨Av, env, Qa, Xa, g, q, k, x⟩ =>
      ⟨Av, env, _, Xa, g, q, fun as env' vs Av' H' ⟨hl, q'⟩ g' m' d' => call_coreF (by rw [d'.length]; exact (agDs_len as).trans hl) g' m' d' q' k x, x⟩) (pe_callG F hr hG hg hm hk hb tk ha hdb he hpl)
end
def bodyEndsF (mi : Option Nat) (a : Addr) (m : List D) (Qd : List D → List D → Prop) (Xd : Addr → D → Prop) : AEnds where
  rt := fun _ _ => False
  nx := fun _ => False
  ex := fun C d env' => match mi with
    | none => Xd C d
    | some j => env'[j]? = some (.bor a m) ∧ Xd C d
  rf := fun ds env' => match mi with
    | none => Qd ds []
    | some j => ∃ m', env'[j]? = some (.bor a m') ∧ Qd ds m'
theorem fn_AF {τ : TBL} {cal : Bool} {P : Program} {w : World} {K : PySem.W.Frag} {mg : Str → Option Value} {base : Heap} {x qual : Str} {st : Stmt} {f : Addr} {fd : FuncData} {N ps : List Str} {k n : Nat} {mi : Option Nat} {con : ConF} (F : Fun K x qual st f fd) (S : FnScope N ps (defScope st)) (hn : ps.length = n) (hN : n ≤ N.length)
    (body : ∀ (cdv : Value) (A : Around) (outer : List PySem.Env) (s : Shared) (H : Hp) (E : XK) (c : Cn τ), Room k (A.deeper (PyProof.Rows.envOfC qual (defScope st) s.heap.objs.size f cdv)) → CalmB cal A → fd.code = cdv →
      ∃ W, PSs (cxOf (L2.CX P w) P w K mg base N qual (defScope st) f cdv A outer s H E) (defBody st) (liftS c (fun cls d _ H' => E cls d H') W) ∧
        ∀ a ds m Qd Xd, ds.length = n → (mi = none → m = []) → con ds m Qd Xd → W (env0 N.length mi a m ds) (bodyEndsF mi a m Qd Xd)) :
    FnG P w K mg base cal (k + 1) f fd ps (spOfF τ n mi con) := by
  refine FnG.body F S (fun vs H Q E h => ?_) (fun cdv A outer s H vs Q E hr hG hcv h => ?_)
  · obtain ⟨_, _, _, _, _, _, h, _⟩ := h
    rw [h, hn]
  · obtain ⟨Av, ds, a, m, Qd, Xd, hl, tab, live, ad, q, k1, k2⟩ := h
    obtain ⟨W, hW, hb⟩ := body cdv A outer s H E ⟨H, Av, passed mi a⟩ hr hG hcv
    refine ⟨_, hW, Av, env0 N.length mi a m ds, bodyEndsF mi a m Qd Xd, start_good hl hN tab live ad, hb a ds m Qd Xd (by rw [← ad.len, hl]) ad.nm q, ?_⟩
    have am : ∀ {Av' : AvS} {σ' : L2.St} {H' : Hp} {env' : Env} {j : Nat} {m' : List D}, Good (τ := τ) ⟨H, Av, passed mi a⟩ Av' σ' H' env' → env'[j]? = some (.bor a m') → ∃ ws, H' a = some (.lst ws) ∧ Dens Av' H' ws m' := fun g e => by
      obtain ⟨o, _, vs, _, _, h1, h2, _⟩ := g.slot e
      exact ⟨vs, h1, h2⟩
    constructor
    · exact fun _ _ _ _ q' => q'.elim
    · exact fun _ _ _ _ _ _ q' => q'.elim
    · exact fun _ _ _ _ q' => q'.elim
    · exact fun _ _ _ _ q' => q'.elim
    · intro σ' C d env' Av' H' dd v q' g' m' e1 e2 e3
      have d'' : Den Av H' v d := e3.mono (Mono.shrink g'.lo)
      have n' : ¬ Av dd := fun z => e2 (g'.lo dd z)
      cases mi with
      | none => exact k2 C d dd v H' q' e1 n' d'' (fun j z => nomatch z) g'.fr g'.tab
      | some j =>
        obtain ⟨e, q''⟩ := q'
        exact k2 C d dd v H' q'' e1 n' d'' (fun j' z => by
          cases z
          obtain ⟨ws, h1, h2⟩ := am g' e
          exact ⟨ws, h1, h2.mono (Mono.shrink g'.lo)⟩) g'.fr g'.tab
    · intro es env' Av' σ' H' p q' f m'
      obtain ⟨ws, h1, h2⟩ := f.at_
      have lo : ∀ b, add Av p b → Av' b := fun b h => h.elim (f.g.lo b) fun z => by rw [z]; exact f.inn
      cases mi with
      | none => exact k1 es [] p ws H' q' f.h0 h1 (h2.mono (Mono.shrink lo)) (fun j z => nomatch z) f.g.fr f.g.tab
      | some j =>
        obtain ⟨m'', e, q''⟩ := q'
        exact k1 es m'' p ws H' q'' f.h0 h1 (h2.mono (Mono.shrink lo)) (fun j' z => by
          cases z
          obtain ⟨ws2, g1, g2⟩ := am f.g e
          exact ⟨ws2, g1, g2.mono (Mono.shrink lo)⟩) f.g.fr f.g.tab
end DL
set_option Elab.async false
set_option linter.all false
set_option maxRecDepth 100000
set_option maxHeartbeats 4000000
namespace DL
open PySem L2

section
variable {X : Cx} {τ : TBL} {c : Cn τ} {Wx : WX} {e a b : Expr} {es : List Expr} {pos p : Pos}
/-! ### displays -/
theorem Dens.of_ags {Av : AvS} {σ : L2.St} {H : Hp} {vs : List V} {as : List Ag} (h : AgsOk Av σ H vs as) (e : agR as 0 = []) : Dens Av H vs (agDs as) := agR_none e h
def wTup (w : AA) (env : Env) (Q : D → Env → Prop) (X : AX) : Prop := w env (fun as env' => (agR as 0 = [] ∧ as.length ≤ sizeLine) ∧ Q (.tup (agDs as)) env') X
theorem a_tup {w : AA} {x1} (h : PA X es (liftA c Wx w)) : PE X (.Tuple es x1 pos) (liftE c Wx (wTup w)) := PE.imp (fun σ H Q ⟨Av, env, Qa, Xa, g, q, k, x⟩ =>
  ⟨Av, env, _, Xa, g, q, fun as env' vs Av' H' ⟨⟨e1, e2⟩, q'⟩ g' m' d' => ⟨by rw [d'.length, agDs_len]; exact e2, fun p hp =>
    k _ env' (.ref p) Av' _ q' (g'.new hp) (m'.trans (Mono.new hp)) (.tup (.inl upd_same) (g'.notAv hp) ((Dens.of_ags d' e1).mono (Mono.new hp)))⟩, x⟩) (pe_tup h)
def wLst (w : AA) (env : Env) (Q : List D → Env → Prop) (X : AX) : Prop := w env (fun as env' => (agR as 0 = [] ∧ as.length ≤ sizeLine) ∧ Q (agDs as) env') X
theorem a_lst {w : AA} (h : PA X es (liftA c Wx w)) : PE X (.List es pos) (liftF c Wx (wLst w)) := PE.imp (fun σ H Q ⟨Av, env, Qa, Xa, g, q, k, x⟩ =>
  ⟨Av, env, _, Xa, g, q, fun as env' vs Av' H' ⟨⟨e1, e2⟩, q'⟩ g' m' d' => ⟨by rw [d'.length, agDs_len]; exact e2, fun p hp =>
    k _ env' p (add Av' p) _ q' (g'.fresh hp (Dens.of_ags d' e1)) (m'.trans (Mono.addNew hp))⟩, x⟩) (pe_lst h)

/-! ### items -/
def atD (K : PySem.W.Frag) : D → D → (D → Prop) → Prop
  | .lst ds, .int i, k => ∃ d, atI ds i = some d ∧ k d
  | .tup ds, .int i, k => ∃ d, atI ds i = some d ∧ k d
  | .scr K' ns, .int i, k => K' = K ∧ ∃ n, atI ns i = some n ∧ k (.int n)
  | .str s, .int i, k => s.length ≤ sizeLine ∧ ∃ ch, atI s.cps.toList i = some ch ∧ k (.str ⟨#[ch]⟩)
  | _, _, _ => False
theorem Dens.atI {Av : AvS} {H : Hp} {vs : List V} {ds : List D} {i : Int} {d : D} (h : Dens Av H vs ds) (e : L2.atI ds i = some d) : ∃ v, L2.atI vs i = some v ∧ Den Av H v d := by
  unfold L2.atI at e ⊢
  rw [h.length]
  cases q : ixN ds.length i with
  | none => rw [q] at e; cases e
  | some j =>
    rw [q] at e
    exact h.get e
theorem map_atI {α β : Type} {f : α → β} {xs : List α} {i : Int} {x : α} (e : L2.atI xs i = some x) : L2.atI (xs.map f) i = some (f x) := by
  unfold L2.atI at e ⊢
  rw [List.length_map]
  cases q : ixN xs.length i with
  | none => rw [q] at e; cases e
  | some j =>
    rw [q] at e
    have e' : xs[j]? = some x := e
    show (xs.map f)[j]? = some (f x)
    rw [List.getElem?_map, e']
    rfl
theorem opd_ix {K : PySem.W.Frag} : OpD (rIx K) (atD K) := by
  intro Av H x y d1 d2 k Q hl h1 h2 r kk
  cases h2 with
  | int i =>
    cases h1 with
    | lst h na q =>
      obtain ⟨d, e, r⟩ := r
      obtain ⟨v, e1, e2⟩ := q.atI e
      exact .inl ⟨_, _, i, v, rfl, rfl, .inl (.inl h), e1, kk d v H r Grow.refl e2⟩
    | tup h na q =>
      obtain ⟨d, e, r⟩ := r
      obtain ⟨v, e1, e2⟩ := q.atI e
      exact .inr (.inl ⟨_, _, i, v, rfl, rfl, .inl h, e1, kk d v H r Grow.refl e2⟩)
    | @scr K' a ns h na =>
      obtain ⟨eK, n, e, r⟩ := r
      exact .inl ⟨_, _, i, .int n, rfl, rfl, .inl h, map_atI e, kk _ _ H r Grow.refl (.int n)⟩
    | scrK h =>
      obtain ⟨rfl, n, e, r⟩ := r
      exact .inl ⟨_, _, i, .int n, rfl, rfl, .inr h, map_atI e, kk _ _ H r Grow.refl (.int n)⟩
    | str s =>
      obtain ⟨h0, ch, e, r⟩ := r
      exact .inr (.inr ⟨s, i, ch, rfl, rfl, h0, e, kk _ _ H r Grow.refl (.str _)⟩)
    | _ => exact False.elim r
  | _ => cases h1 <;> exact False.elim r
/-- dicts by int and text keys -/
def keyD : D → Option Key
  | .int i => some (.inl i)
  | .str s => some (.inr s)
  | _ => none
def dget : List Key → List D → Key → Option D
  | k :: ks, d :: ds, key => if k = key then some d else dget ks ds key
  | _, _, _ => none
theorem dget_val {Av : AvS} {H : Hp} {key : Key} : ∀ {kvs : List (Key × V)} {ds : List D}, Dens Av H (kvs.map (·.2)) ds → (∀ d, dget (kvs.map (·.1)) ds key = some d → ∃ v, valV kvs key = some v ∧ Den Av H v d) ∧ (dget (kvs.map (·.1)) ds key = none → valV kvs key = none)
  | [], _, h => by
    cases h
    exact ⟨fun d e => by simp [dget] at e, fun _ => rfl⟩
  | (k, v) :: kvs, _, h => by
    cases h with
    | @cons _ _ d ds h t =>
      obtain ⟨h1, h2⟩ := dget_val (key := key) t
      by_cases e : k = key
      · subst e
        exact ⟨fun d' e' => by
          simp [dget] at e'
          subst e'
          exact ⟨v, valV_pos rfl, h⟩, fun e' => by simp [dget] at e'⟩
      · exact ⟨fun d' e' => by
          simp [dget, e] at e'
          obtain ⟨v', h3, h4⟩ := h1 d' e'
          exact ⟨v', by rw [valV_neg e]; exact h3, h4⟩, fun e' => by
          simp [dget, e] at e'
          rw [valV_neg e]
          exact h2 e'⟩
theorem keyD_kV {Av : AvS} {H : Hp} {v : V} {d : D} {k : Key} (h : Den Av H v d) (e : keyD d = some k) : v = kV k := by
  cases h <;> cases e <;> rfl
def atDd (K : PySem.W.Frag) : D → D → (D → Prop) → Prop
  | .dic ks ds, y, k => ∃ key d, keyD y = some key ∧ dget ks ds key = some d ∧ k d
  | x, y, k => atD K x y k
def rIxA (K : PySem.W.Frag) : R2 := fun x y H Q => rIx K x y H Q ∨ ∃ a v, x = .ref a ∧ DGet H a y (some v) ∧ Q v H
theorem ix_any (hu : X.A.units + 1 < cLine) : IxR X (rIxA X.K) := ix_seq.or (by
  intro value slice pins s σ H x y v u Q I rx ry h hs
  obtain ⟨a, z, rfl, g, q⟩ := h
  cases rx
  exact PyProof.Rows.tail_any (dict_typeIs I g) PySem.F.slot_dict_getitem.lookup (d_getItem hu I g ry fun w' s3 I3 rw' => ⟨z, H, I3, rw', q⟩) hs)
theorem opd_ixA {K : PySem.W.Frag} : OpD (rIxA K) (atDd K) := by
  intro Av H x y d1 d2 k Q hl h1 h2 r kk
  cases h1 with
  | dic h na q =>
    obtain ⟨key, d, e1, e2, r⟩ := r
    obtain ⟨v, e3, e4⟩ := (dget_val q).1 d e2
    exact .inr ⟨_, v, rfl, .inl ⟨_, key, .inl h, keyD_kV h2 e1, e3.symm⟩, kk d v H r Grow.refl e4⟩
  | non => exact .inl (opd_ix Av H _ y _ d2 k Q hl .non h2 r kk)
  | bl b => exact .inl (opd_ix Av H _ y _ d2 k Q hl (.bl b) h2 r kk)
  | int i => exact .inl (opd_ix Av H _ y _ d2 k Q hl (.int i) h2 r kk)
  | str b => exact .inl (opd_ix Av H _ y _ d2 k Q hl (.str b) h2 r kk)
  | ty b => exact .inl (opd_ix Av H _ y _ d2 k Q hl (.ty b) h2 r kk)
  | atm b => exact .inl (opd_ix Av H _ y _ d2 k Q hl (.atm b) h2 r kk)
  | tup h na q => exact .inl (opd_ix Av H _ y _ d2 k Q hl (.tup h na q) h2 r kk)
  | lst h na q => exact .inl (opd_ix Av H _ y _ d2 k Q hl (.lst h na q) h2 r kk)
  | ins h na q => exact .inl (opd_ix Av H _ y _ d2 k Q hl (.ins h na q) h2 r kk)
  | err h h2' na ne q => exact .inl (opd_ix Av H _ y _ d2 k Q hl (.err h h2' na ne q) h2 r kk)
  | errK h h2' na ne q => exact .inl (opd_ix Av H _ y _ d2 k Q hl (.errK h h2' na ne q) h2 r kk)
  | scr h na => exact .inl (opd_ix Av H _ y _ d2 k Q hl (.scr h na) h2 r kk)
  | scrK h => exact .inl (opd_ix Av H _ y _ d2 k Q hl (.scrK h) h2 r kk)
theorem a_ix {wa wb : AE} (hu : X.A.units + 1 < cLine) (ha : PE X a (liftE c Wx wa)) (hb : PE X b (liftE c Wx wb)) (hs : PlainIx b) : PE X (.Subscript a b pos) (liftE c Wx (wOp (atDd X.K) wa wb)) := PE.imp (bin_lift opd_ixA) (pe_ix (ix_any hu) ha hb hs)
/-- an item of a list that may change -/
def wIxM (i : Nat) (wb : AE) (env : Env) (Q : D → Env → Prop) (X : AX) : Prop := (∃ s ds, env[i]? = some s ∧ mutOf s = some ds) ∧ wb env (fun y env1 => ∃ s ds n d, env1[i]? = some s ∧ mutOf s = some ds ∧ y = .int n ∧ atI ds n = some d ∧ Q d env1) X
theorem a_ixM {i : Nat} {x : Str} {wb : AE} (hp : PE X (.Name x p) (tVar i)) (hb : PE X b (liftE c Wx wb)) (hs : PlainIx b) : PE X (.Subscript (.Name x p) b pos) (liftE c Wx (wIxM i wb)) := PE.imp (fun σ H Q ⟨Av, env, Qa, Xa, g, ⟨⟨s, ds, e1, e2⟩, q⟩, k, x⟩ => by
  obtain ⟨a, vs, e3, _⟩ := g.mutAt e1 e2
  refine ⟨_, e3, Av, env, _, Xa, g, q, fun y env1 v Av1 H1 q1 g1 m1 d1 => ?_, x⟩
  obtain ⟨s', ds', n, d, f1, f2, rfl, f3, q1⟩ := q1
  obtain ⟨a', vs', f4, f5, f6, f7, _⟩ := g1.mutAt f1 f2
  rw [e3] at f4; cases f4
  cases d1
  obtain ⟨z, f8, f9⟩ := f7.atI f3
  exact .inl ⟨a, vs', n, z, rfl, rfl, .inl (.inl f6), f8, k d env1 z Av1 H1 q1 g1 m1 f9⟩) (pe_ix ix_seq hp hb hs)
/-- pot[i] = e -/
def wSetM (i : Nat) (wv wi : AE) (env : Env) (A : AEnds) : Prop := wv env (fun v env1 => (∃ s ds, env1[i]? = some s ∧ mutOf s = some ds) ∧ wi env1 (fun y env2 => ∃ s ds n j, env2[i]? = some s ∧ mutOf s = some ds ∧ y = .int n ∧ ixN ds.length n = some j ∧ A.nx (env2.set i (setMut s (ds.set j v)))) A.ex) A.ex
theorem s_setM {i : Nat} {x : Str} {px ps : Pos} {wv wi : AE} (hp : PE X (.Name x px) (tVar i)) (hi : PE X b (liftE c Wx wi)) (hv : PE X e (liftE c Wx wv))
    (pr : ∀ tv ti, PE X e tv → PE X b ti → PS X (.Assign [.Subscript (.Name x px) b ps] e pos) (tAsg tv (gSub (tVar i) ti rSetL))) :
    PS X (.Assign [.Subscript (.Name x px) b ps] e pos) (liftS c Wx (wSetM i wv wi)) := PS.imp (fun D σ H ⟨Av, env, A, g, q, E⟩ => by
  refine ⟨Av, env, _, _, g, q, fun v env1 vv Av1 H1 q1 g1 m1 d1 => ?_, E.ex _⟩
  obtain ⟨⟨s, ds, e1, e2⟩, q1⟩ := q1
  obtain ⟨a, vs, e3, _⟩ := g1.mutAt e1 e2
  refine ⟨_, e3, Av1, env1, _, _, g1, q1, fun y env2 vy Av2 H2 q2 g2 m2 d2 => ?_, (E.ex _).mono m1⟩
  obtain ⟨s', ds', n, j, f1, f2, rfl, f3, q2⟩ := q2
  obtain ⟨a', vs', f4, f5, f6, f7, f8⟩ := g2.mutAt f1 f2
  rw [e3] at f4; cases f4
  cases d2
  obtain ⟨g3, m3⟩ := f8 _ _ (f7.set j (d1.mono m2))
  exact ⟨a, vs', n, j, rfl, rfl, f6, by rw [f7.length]; exact f3, E.nx _ Av2 σ _ q2 g3 ((m1.trans m2).trans m3)⟩) (pr _ _ hv hi)

/-! ### numbers -/
def addD : D → D → (D → Prop) → Prop
  | .int i, .int j, k => k (.int (i + j))
  | .int i, .bl j, k => k (.int (i + PyProof.Rows.b2i j))
  | .str s, .str t, k => s.length + t.length ≤ sizeLine ∧ k (.str (s ++ t))
  | _, _, _ => False
def rAddA : R2 := fun x y H Q => (∃ i j, x = .int i ∧ y = .int j ∧ Q (.int (i + j)) H) ∨ (∃ i k, x = .int i ∧ y = .bl k ∧ Q (.int (i + PyProof.Rows.b2i k)) H) ∨ ∃ i j, x = .str i ∧ y = .str j ∧ i.length + j.length ≤ sizeLine ∧ Q (.str (i ++ j)) H
theorem op_addA : OpR X (binaryOp .Add) rAddA := op_add.or (op_add_ib.or op_add_str)
theorem opd_add : OpD rAddA addD := by
  intro Av H x y d1 d2 k Q hl h1 h2 r kk
  cases h1 with
  | int i =>
    cases h2 with
    | int j => exact .inl ⟨i, j, rfl, rfl, kk _ _ H r Grow.refl (.int _)⟩
    | bl j => exact .inr (.inl ⟨i, j, rfl, rfl, kk _ _ H r Grow.refl (.int _)⟩)
    | _ => exact False.elim r
  | str s =>
    cases h2 with
    | str t => exact .inr (.inr ⟨s, t, rfl, rfl, r.1, kk _ _ H r.2 Grow.refl (.str _)⟩)
    | _ => exact False.elim r
  | _ => cases h2 <;> exact False.elim r
/-- list + list -/
def catD : D → D → (List D → Prop) → Prop
  | .lst a, .lst b, k => a.length + b.length ≤ sizeLine ∧ k (a ++ b)
  | _, _, _ => False
theorem opf_cat : OpF rCat catD := by
  intro Av H x y d1 d2 k Q hl h1 h2 r kk
  cases h1 with
  | lst ha na qa =>
    cases h2 with
    | lst hb nb qb => exact ⟨_, _, _, _, rfl, rfl, ha, hb, by rw [qa.length, qb.length]; exact r.1, fun p hp => kk _ _ p r.2 hp (qa.append qb)⟩
    | _ => exact False.elim r
  | _ => cases h2 <;> exact False.elim r
def intD (C : Int → Int → Prop) (f : Int → Int → D) : D → D → (D → Prop) → Prop
  | .int i, .int j, k => C i j ∧ k (f i j)
  | _, _, _ => False
theorem opd_int {C : Int → Int → Prop} {gv : Int → Int → V} {f : Int → Int → D} (hf : ∀ Av H i j, Den Av H (gv i j) (f i j)) : OpD (rI C gv) (intD C f) := by
  intro Av H x y d1 d2 k Q hl h1 h2 r kk
  cases h1 with
  | int i =>
    cases h2 with
    | int j => exact ⟨i, j, rfl, rfl, r.1, kk _ _ H r.2 Grow.refl (hf _ _ i j)⟩
    | _ => exact False.elim r
  | _ => cases h2 <;> exact False.elim r
def intD0 (f : Int → Int → D) : D → D → (D → Prop) → Prop
  | .int i, .int j, k => k (f i j)
  | _, _, _ => False
theorem opd_int0 {gv : Int → Int → V} {f : Int → Int → D} (hf : ∀ Av H i j, Den Av H (gv i j) (f i j)) : OpD (rI0 gv) (intD0 f) := by
  intro Av H x y d1 d2 k Q hl h1 h2 r kk
  cases h1 with
  | int i =>
    cases h2 with
    | int j => exact ⟨i, j, rfl, rfl, kk _ _ H r Grow.refl (hf _ _ i j)⟩
    | _ => exact False.elim r
  | _ => cases h2 <;> exact False.elim r
abbrev subD := intD0 fun i j => .int (i - j)
abbrev mulD := intD CMulW fun i j => .int (i * j)
abbrev fdivD := intD CDivW fun i j => .int (i / j)
abbrev modD := intD (fun _ j => 0 < j) fun i j => .int (i % j)
def CPowG (i j : Int) : Prop := 0 ≤ j ∧ (Builtin.Int.intBits i : Int) * j ≤ 2 ^ 27
theorem op_powG : OpR X (binaryOp .Pow) (rI CPowG fun i j => .int (i ^ j.toNat)) := opI fun _ _ _ _ _ _ _ hc q => PyProof.Rows.pow_int hc.1 hc.2 q
abbrev powD := intD CPowG fun i j => .int (i ^ j.toNat)
abbrev ltD := intD0 fun i j => .bl (decide (i < j))
abbrev leD := intD0 fun i j => .bl (decide (i ≤ j))
abbrev gtD := intD0 fun i j => .bl (decide (j < i))
abbrev geD := intD0 fun i j => .bl (decide (j ≤ i))
section
variable {wa wb : AE}
theorem a_add (ha : PE X a (liftE c Wx wa)) (hb : PE X b (liftE c Wx wb)) : PE X (.BinOp a .Add b pos) (liftE c Wx (wOp addD wa wb)) := a_op op_addA opd_add ha hb
theorem a_cat (ha : PE X a (liftE c Wx wa)) (hb : PE X b (liftE c Wx wb)) : PE X (.BinOp a .Add b pos) (liftF c Wx (wOpF catD wa wb)) := a_opF op_cat opf_cat ha hb
theorem a_sub (ha : PE X a (liftE c Wx wa)) (hb : PE X b (liftE c Wx wb)) : PE X (.BinOp a .Sub b pos) (liftE c Wx (wOp subD wa wb)) := a_op op_sub (opd_int0 fun _ _ _ _ => .int _) ha hb
theorem a_mul (ha : PE X a (liftE c Wx wa)) (hb : PE X b (liftE c Wx wb)) : PE X (.BinOp a .Mult b pos) (liftE c Wx (wOp mulD wa wb)) := a_op op_mulW (opd_int fun _ _ _ _ => .int _) ha hb
theorem a_fdiv (ha : PE X a (liftE c Wx wa)) (hb : PE X b (liftE c Wx wb)) : PE X (.BinOp a .FloorDiv b pos) (liftE c Wx (wOp fdivD wa wb)) := a_op op_fdivW (opd_int fun _ _ _ _ => .int _) ha hb
theorem a_mod (ha : PE X a (liftE c Wx wa)) (hb : PE X b (liftE c Wx wb)) : PE X (.BinOp a .Mod b pos) (liftE c Wx (wOp modD wa wb)) := a_op op_mod (opd_int fun _ _ _ _ => .int _) ha hb
theorem a_pow (ha : PE X a (liftE c Wx wa)) (hb : PE X b (liftE c Wx wb)) : PE X (.BinOp a .Pow b pos) (liftE c Wx (wOp powD wa wb)) := a_op op_powG (opd_int fun _ _ _ _ => .int _) ha hb
theorem a_lt (ha : PE X a (liftE c Wx wa)) (hb : PE X b (liftE c Wx wb)) : PE X (.Compare a [.Lt] [b] pos) (liftE c Wx (wOp ltD wa wb)) := a_cmp op_lt (opd_int0 fun _ _ _ _ => .bl _) ha hb (nomark _)
theorem a_le (ha : PE X a (liftE c Wx wa)) (hb : PE X b (liftE c Wx wb)) : PE X (.Compare a [.LtE] [b] pos) (liftE c Wx (wOp leD wa wb)) := a_cmp op_le (opd_int0 fun _ _ _ _ => .bl _) ha hb (nomark _)
theorem a_gt (ha : PE X a (liftE c Wx wa)) (hb : PE X b (liftE c Wx wb)) : PE X (.Compare a [.Gt] [b] pos) (liftE c Wx (wOp gtD wa wb)) := a_cmp op_gt (opd_int0 fun _ _ _ _ => .bl _) ha hb (nomark _)
theorem a_ge (ha : PE X a (liftE c Wx wa)) (hb : PE X b (liftE c Wx wb)) : PE X (.Compare a [.GtE] [b] pos) (liftE c Wx (wOp geD wa wb)) := a_cmp op_ge (opd_int0 fun _ _ _ _ => .bl _) ha hb (nomark _)
theorem t_lt (ha : PE X a (liftE c Wx wa)) (hb : PE X b (liftE c Wx wb)) : PT X (.Compare a [.Lt] [b] pos) (liftT c Wx (wB (wOp ltD wa wb))) := t_cmp op_lt (opd_int0 fun _ _ _ _ => .bl _) ha hb (nomark _)
theorem t_le (ha : PE X a (liftE c Wx wa)) (hb : PE X b (liftE c Wx wb)) : PT X (.Compare a [.LtE] [b] pos) (liftT c Wx (wB (wOp leD wa wb))) := t_cmp op_le (opd_int0 fun _ _ _ _ => .bl _) ha hb (nomark _)
theorem t_gt (ha : PE X a (liftE c Wx wa)) (hb : PE X b (liftE c Wx wb)) : PT X (.Compare a [.Gt] [b] pos) (liftT c Wx (wB (wOp gtD wa wb))) := t_cmp op_gt (opd_int0 fun _ _ _ _ => .bl _) ha hb (nomark _)
theorem t_ge (ha : PE X a (liftE c Wx wa)) (hb : PE X b (liftE c Wx wb)) : PT X (.Compare a [.GtE] [b] pos) (liftT c Wx (wB (wOp geD wa wb))) := t_cmp op_ge (opd_int0 fun _ _ _ _ => .bl _) ha hb (nomark _)

/-! ### and, or, not, a if t else b -/
def wAnd (t u : AT) (env : Env) (Q : Bool → Env → Prop) (X : AX) : Prop := t env (fun b env1 => if b = true then u env1 Q X else Q false env1) X
def wOr (t u : AT) (env : Env) (Q : Bool → Env → Prop) (X : AX) : Prop := t env (fun b env1 => if b = true then Q true env1 else u env1 Q X) X
def wNot (t : AT) (env : Env) (Q : Bool → Env → Prop) (X : AX) : Prop := t env (fun b env1 => Q (!b) env1) X
def wAndV (wa wb : AE) (env : Env) (Q : D → Env → Prop) (X : AX) : Prop := wa env (fun x env1 => ∃ b, x = .bl b ∧ if b = true then wb env1 Q X else Q (.bl false) env1) X
def wOrV (wa wb : AE) (env : Env) (Q : D → Env → Prop) (X : AX) : Prop := wa env (fun x env1 => ∃ b, x = .bl b ∧ if b = true then Q (.bl true) env1 else wb env1 Q X) X
def wNotV (wa : AE) (env : Env) (Q : D → Env → Prop) (X : AX) : Prop := wa env (fun x env1 => ∃ b, x = .bl b ∧ Q (.bl (!b)) env1) X
def wIfE (t : AT) (wa wb : AE) (env : Env) (Q : D → Env → Prop) (X : AX) : Prop := t env (fun b env1 => if b = true then wa env1 Q X else wb env1 Q X) X
variable {t u : AT} {rest : List Expr}
theorem and_lift : ∀ σ H Q, liftT c Wx (wAnd t u) σ H Q → tAnd (liftT c Wx t) (liftT c Wx u) σ H Q := fun σ H Q ⟨Av, env, Qa, Xa, g, q, k, x⟩ =>
  ⟨Av, env, _, Xa, g, q, fun b env1 Av1 H1 q1 g1 m1 => by
    cases b with
    | true => exact ⟨Av1, env1, Qa, Xa, g1, q1, fun b env2 Av2 H2 q2 g2 m2 => k b env2 Av2 H2 q2 g2 (m1.trans m2), x.mono m1⟩
    | false => exact k false env1 Av1 H1 q1 g1 m1, x⟩
theorem or_lift : ∀ σ H Q, liftT c Wx (wOr t u) σ H Q → tOr (liftT c Wx t) (liftT c Wx u) σ H Q := fun σ H Q ⟨Av, env, Qa, Xa, g, q, k, x⟩ =>
  ⟨Av, env, _, Xa, g, q, fun b env1 Av1 H1 q1 g1 m1 => by
    cases b with
    | false => exact ⟨Av1, env1, Qa, Xa, g1, q1, fun b env2 Av2 H2 q2 g2 m2 => k b env2 Av2 H2 q2 g2 (m1.trans m2), x.mono m1⟩
    | true => exact k true env1 Av1 H1 q1 g1 m1, x⟩
theorem PW.imp {t t' : TT} (h : ∀ σ H Q, t' σ H Q → t σ H Q) (p : PW X e t) : PW X e t' := ⟨fun w pins s σ H Q I q => p.run w pins s σ H Q I (h σ H Q q)⟩
theorem w_and1 (ha : PT X a (liftT c Wx t)) : PW X (.BoolOp .And [a] pos) (liftT c Wx t) := pw_and1 ha
theorem w_or1 (ha : PT X a (liftT c Wx t)) : PW X (.BoolOp .Or [a] pos) (liftT c Wx t) := pw_or1 ha
theorem w_and (ha : PT X a (liftT c Wx t)) (hb : PW X (.BoolOp .And (b :: rest) pos) (liftT c Wx u)) : PW X (.BoolOp .And (a :: b :: rest) pos) (liftT c Wx (wAnd t u)) := PW.imp and_lift (pw_and ha hb)
theorem w_or (ha : PT X a (liftT c Wx t)) (hb : PW X (.BoolOp .Or (b :: rest) pos) (liftT c Wx u)) : PW X (.BoolOp .Or (a :: b :: rest) pos) (liftT c Wx (wOr t u)) := PW.imp or_lift (pw_or ha hb)
theorem t_not (ha : PT X a (liftT c Wx t)) : PT X (.UnaryOp .Not a pos) (liftT c Wx (wNot t)) := PT.imp (fun σ H Q ⟨Av, env, Qa, Xa, g, q, k, x⟩ => ⟨Av, env, _, Xa, g, q, fun b env1 Av1 H1 q1 g1 m1 => k (!b) env1 Av1 H1 q1 g1 m1, x⟩) (pt_not ha)
theorem t_w (h : PW X e (liftT c Wx t)) : PT X e (liftT c Wx t) := h.pt
theorem a_one {op} {wa : AE} (h : PE X a (liftE c Wx wa)) : PE X (.BoolOp op [a] pos) (liftE c Wx wa) := pe_one h
theorem a_and (ha : PE X a (liftE c Wx wa)) (hb : PE X (.BoolOp .And (b :: rest) pos) (liftE c Wx wb)) : PE X (.BoolOp .And (a :: b :: rest) pos) (liftE c Wx (wAndV wa wb)) := PE.imp (fun σ H Q ⟨Av, env, Qa, Xa, g, q, k, x⟩ =>
  ⟨Av, env, _, Xa, g, q, fun d env1 v Av1 H1 q1 g1 m1 d1 => by
    obtain ⟨b, rfl, q1⟩ := q1
    cases d1
    refine ⟨b, rfl, ?_⟩
    cases b with
    | true => exact ⟨Av1, env1, Qa, Xa, g1, q1, fun d env2 v Av2 H2 q2 g2 m2 d2 => k d env2 v Av2 H2 q2 g2 (m1.trans m2) d2, x.mono m1⟩
    | false => exact k _ env1 _ Av1 H1 q1 g1 m1 (.bl false), x⟩) (pe_and ha hb)
theorem a_or (ha : PE X a (liftE c Wx wa)) (hb : PE X (.BoolOp .Or (b :: rest) pos) (liftE c Wx wb)) : PE X (.BoolOp .Or (a :: b :: rest) pos) (liftE c Wx (wOrV wa wb)) := PE.imp (fun σ H Q ⟨Av, env, Qa, Xa, g, q, k, x⟩ =>
  ⟨Av, env, _, Xa, g, q, fun d env1 v Av1 H1 q1 g1 m1 d1 => by
    obtain ⟨b, rfl, q1⟩ := q1
    cases d1
    refine ⟨b, rfl, ?_⟩
    cases b with
    | false => exact ⟨Av1, env1, Qa, Xa, g1, q1, fun d env2 v Av2 H2 q2 g2 m2 d2 => k d env2 v Av2 H2 q2 g2 (m1.trans m2) d2, x.mono m1⟩
    | true => exact k _ env1 _ Av1 H1 q1 g1 m1 (.bl true), x⟩) (pe_or ha hb)
theorem a_not (ha : PE X a (liftE c Wx wa)) : PE X (.UnaryOp .Not a pos) (liftE c Wx (wNotV wa)) := PE.imp (fun σ H Q ⟨Av, env, Qa, Xa, g, q, k, x⟩ =>
  ⟨Av, env, _, Xa, g, q, fun d env1 v Av1 H1 q1 g1 m1 d1 => by
    obtain ⟨b, rfl, q1⟩ := q1
    cases d1
    exact ⟨b, rfl, k _ env1 _ Av1 H1 q1 g1 m1 (.bl _)⟩, x⟩) (pe_not ha)
theorem a_if {ce : Expr} (hc : PT X ce (liftT c Wx t)) (ha : PE X a (liftE c Wx wa)) (hb : PE X b (liftE c Wx wb)) : PE X (.IfExp ce a b pos) (liftE c Wx (wIfE t wa wb)) := PE.imp (fun σ H Q ⟨Av, env, Qa, Xa, g, q, k, x⟩ =>
  ⟨Av, env, _, Xa, g, q, fun b env1 Av1 H1 q1 g1 m1 => by
    cases b with
    | true => exact ⟨Av1, env1, Qa, Xa, g1, q1, fun d env2 v Av2 H2 q2 g2 m2 d2 => k d env2 v Av2 H2 q2 g2 (m1.trans m2) d2, x.mono m1⟩
    | false => exact ⟨Av1, env1, Qa, Xa, g1, q1, fun d env2 v Av2 H2 q2 g2 m2 d2 => k d env2 v Av2 H2 q2 g2 (m1.trans m2) d2, x.mono m1⟩, x⟩) (pe_ifExp hc ha hb)
end
end
end DL
set_option Elab.async false
set_option linter.all false
set_option maxRecDepth 100000
set_option maxHeartbeats 4000000
namespace DL
open PySem L2
abbrev W0 : WX := fun _ _ _ _ => False
abbrev X0 : AX := fun _ _ _ => False

/-! ### comprehensions -/
def wipeE (env : Env) : List Nat → Env
  | [] => env
  | v :: vs => (wipeE env vs).set v .un
/-- the block's own names as they stood ahead of it -/
def restE (env0 : Env) (env : Env) : List Nat → Env
  | [] => env
  | v :: vs => (restE env0 env vs).set v (env0.getD v .un)
def plainAt (env : Env) (v : Nat) : Bool := match env.getD v .un with
  | .un => true
  | .val _ => true
  | _ => false
def wLc (wi : AI) (g : AG) (t : AT) (w : AE) (vs : List Nat) (env : Env) (Q : List D → Env → Prop) (X : AX) : Prop := wi env (fun ds env1 => vs.all (plainAt env1) = true ∧ ∃ Inv : Nat → List D → Env → Prop, Inv 0 [] (wipeE env1 vs) ∧
  (∀ (i : Nat) d acc env', ds[i]? = some d → Inv i acc env' → g d env' fun env2 => t env2 (fun b env3 => if b = true then w env3 (fun y env4 => acc.length < sizeLine ∧ Inv (i + 1) (acc ++ [y]) (wipeE env4 vs)) X0 else Inv (i + 1) acc (wipeE env3 vs)) X0) ∧
  ∀ acc env', Inv ds.length acc env' → Q acc (restE env1 env' vs)) X
/-- a target that stores the block's own names -/
def GOkV {τ : TBL} (c : Cn τ) (g : TG) (w : AG) (vs : List Nat) : Prop := ∀ Av σ₀ H env v d Qe Q, Good c Av (wipe σ₀ vs) H env → Den Av H v d → w d env Qe → (∀ env' Av' σ' H', wipe σ' vs = wipe σ₀ vs → Qe env' → Good c Av' σ' H' env' → Mono Av H Av' H' → Q σ' H') → g v (wipe σ₀ vs) H Q
section
variable {τ : TBL} {c : Cn τ} {Av Av' : AvS} {σ : L2.St} {H H' : Hp} {env env' : Env}
theorem wipeE_len : ∀ vs : List Nat, (wipeE env vs).length = env.length
  | [] => rfl
  | v :: vs => by rw [wipeE, List.length_set, wipeE_len vs]
theorem Good.unAt (g : Good c Av σ H env) (v : Nat) (o : Option V) : Good c Av (σ.set v o) H (env.set v .un) where
  len := by rw [List.length_set, List.length_set, g.len]
  ok := fun j s o' e1 e2 => by
    rw [List.getElem?_set] at e1 e2
    by_cases h : v = j
    · subst h
      rw [if_pos rfl] at e1
      split at e1
      · cases e1; trivial
      · cases e1
    · rw [if_neg h] at e1 e2
      exact g.ok j s o' e1 e2
  sep := fun j k s t o p a hjk e1 e2 e3 e4 h1 => by
    rw [List.getElem?_set] at e1 e2 e3 e4
    by_cases h : v = j
    · subst h
      rw [if_pos rfl] at e1
      split at e1
      · cases e1
        cases o with
        | none => cases h1
        | some w => cases w <;> cases h1
      · cases e1
    · rw [if_neg h] at e1 e3
      by_cases h' : v = k
      · subst h'
        rw [if_pos rfl] at e2
        split at e2
        · cases e2
          cases p with
          | none => exact fun z => nomatch z
          | some w => cases w <;> exact fun z => nomatch z
        · cases e2
      · rw [if_neg h'] at e2 e4
        exact g.sep j k s t o p a hjk e1 e2 e3 e4 h1
  lo := g.lo
  live := g.live
  fr := g.fr
  pl := g.pl
  tab := g.tab
theorem Good.wipe (g : Good c Av σ H env) : ∀ vs : List Nat, Good c Av (L2.wipe σ vs) H (wipeE env vs)
  | [] => g
  | v :: vs => (Good.wipe g vs).unAt v none
/-- the block's names again as they stood -/
theorem Good.rest {σ₀ : L2.St} {env₀ : Env} {Av₀ : AvS} {H₀ : Hp} (g0 : Good c Av₀ σ₀ H₀ env₀) (m : Mono Av₀ H₀ Av H) : ∀ {vs : List Nat}, vs.all (plainAt env₀) = true → Good c Av (L2.wipe σ₀ vs) H env → Good c Av σ₀ H (restE env₀ env vs) := by
  intro vs hv g
  have key : ∀ (ws : List Nat), (∀ w ∈ ws, plainAt env₀ w = true) → ∀ (i : Nat) s o, (restE env₀ env ws)[i]? = some s → σ₀[i]? = some o → (i ∈ ws ∧ SlOk c Av H o s ∧ ownA o s = none) ∨ (i ∉ ws ∧ env[i]? = some s) := by
    intro ws
    induction ws with
    | nil => intro _ i s o e1 e2; exact .inr ⟨List.not_mem_nil, e1⟩
    | cons w ws ih =>
      intro hw i s o e1 e2
      rw [restE, List.getElem?_set] at e1
      by_cases h : w = i
      · subst h
        rw [if_pos rfl] at e1
        split at e1
        · cases e1
          refine .inl ⟨List.mem_cons_self, ?_⟩
          have hi : w < env₀.length := by rw [g0.len]; exact (List.getElem?_eq_some_iff.mp e2).1
          have e3 : env₀[w]? = some (env₀.getD w .un) := by simp [List.getD, hi]
          have k := g0.ok w _ o e3 e2
          have hp := hw w List.mem_cons_self
          unfold plainAt at hp
          cases q : env₀.getD w .un with
          | un =>
            refine ⟨trivial, ?_⟩
            cases o with
            | none => rfl
            | some z => cases z <;> rfl
          | val d =>
            rw [q] at k
            obtain ⟨v, rfl, dv⟩ := k
            refine ⟨⟨v, rfl, dv.mono m⟩, ?_⟩
            cases v <;> rfl
          | own ds => rw [q] at hp; cases hp
          | bor a ds => rw [q] at hp; cases hp
          | box b y => rw [q] at hp; cases hp
        · cases e1
      · rw [if_neg h] at e1
        rcases ih (fun x hx => hw x (List.mem_cons_of_mem _ hx)) i s o e1 e2 with ⟨h1, h2⟩ | ⟨h1, h2⟩
        · exact .inl ⟨List.mem_cons_of_mem _ h1, h2⟩
        · exact .inr ⟨fun z => (List.mem_cons.mp z).elim (fun z => h z.symm) h1, h2⟩
  have wp : ∀ (ws : List Nat) (i : Nat), i ∉ ws → (L2.wipe σ₀ ws)[i]? = σ₀[i]? := fun ws i hi => wipe_out hi
  have kk := key vs (fun w hw => List.all_eq_true.mp hv w hw)
  have rl : (restE env₀ env vs).length = env.length := by
    have : ∀ ws : List Nat, (restE env₀ env ws).length = env.length := by
      intro ws
      induction ws with
      | nil => rfl
      | cons w ws ih => rw [restE, List.length_set, ih]
    exact this vs
  constructor
  · rw [rl, g.len, wipe_length]
  · intro i s o e1 e2
    rcases kk i s o e1 e2 with ⟨_, h, _⟩ | ⟨h1, h2⟩
    · exact h
    · exact g.ok i s o h2 (by rw [wp vs i h1]; exact e2)
  · intro i j s t o p a hij e1 e2 e3 e4 h1 h2
    rcases kk i s o e1 e3 with ⟨_, _, h⟩ | ⟨h3, h4⟩
    · rw [h] at h1; cases h1
    · rcases kk j t p e2 e4 with ⟨_, _, h⟩ | ⟨h5, h6⟩
      · rw [h] at h2; cases h2
      · exact g.sep i j s t o p a hij h4 h6 (by rw [wp vs i h3]; exact e3) (by rw [wp vs j h5]; exact e4) h1 h2
  · exact g.lo
  · exact g.live
  · exact g.fr
  · exact g.pl
  · exact g.tab
end
section
variable {X : Cx} {τ : TBL} {c : Cn τ} {Wx : WX} {e a b : Expr} {es : List Expr} {pos p : Pos}
def liftEA (τ : TBL) (w : AE) : TE := fun σ H Q => ∃ c' : Cn τ, liftE c' W0 w σ H Q
def liftTA (τ : TBL) (w : AT) : TT := fun σ H Q => ∃ c' : Cn τ, liftT c' W0 w σ H Q
theorem PE.allC {w : AE} (h : ∀ c' : Cn τ, PE X e (liftE c' W0 w)) : PE X e (liftEA τ w) := ⟨fun pins s σ H Q I ⟨c', q⟩ => (h c').run pins s σ H Q I q⟩
theorem PTs.allC {ifs : List Expr} {w : AT} (h : ∀ c' : Cn τ, PTs X ifs (liftT c' W0 w)) : PTs X ifs (liftTA τ w) := ⟨fun pins s σ H Q I ⟨c', q⟩ => (h c').run pins s σ H Q I q⟩
theorem PTs.imp {ifs : List Expr} {t t' : TT} (h : ∀ σ H Q, t' σ H Q → t σ H Q) (p : PTs X ifs t) : PTs X ifs t' := ⟨fun pins s σ H Q I q => p.run pins s σ H Q I (h σ H Q q)⟩
def wYes (env : Env) (Q : Bool → Env → Prop) (_ : AX) : Prop := Q true env
theorem ts_nil : PTs X [] (liftT c Wx wYes) := PTs.imp (fun σ H Q ⟨Av, env, Qa, Xa, g, q, k, x⟩ => k true env Av H q g Mono.refl) pts_nil
theorem ts_one {t : AT} (h : PT X e (liftT c Wx t)) : PTs X [e] (liftT c Wx t) := pts_one h
theorem ex0 {σ : L2.St} {Av : AvS} {H : Hp} : ExE c W0 σ Av H X0 := fun _ _ _ _ _ _ _ z => z.elim
theorem lc_lift {wi : AI} {g : TG} {wg : AG} {t : AT} {w : AE} {vs : List Nat} (hg : ∀ c' : Cn τ, GOkV c' g wg vs) : ∀ σ H Q, liftF c Wx (wLc wi wg t w vs) σ H Q → tLc (liftI c Wx wi) g (liftTA τ t) (liftEA τ w) vs σ H Q := by
  intro σ H Q ⟨Av, env, Qa, Xa, gd, q, k, x⟩
  refine ⟨Av, env, _, Xa, gd, q, fun ds env1 Av1 H1 J q1 g1 m1 it D hD => ?_, x⟩
  obtain ⟨pl, Inv, i0, is, id⟩ := q1
  have f1 := (g1.wipe vs).fresh hD (vs := []) (ds := []) .nil
  -- the state between two turns
  refine ⟨fun i m H' => m = ds.length - i ∧ i ≤ ds.length ∧ ∃ acc env' Av', Inv i acc env' ∧ Fresh c Av' (L2.wipe σ vs) H' env' D acc ∧ Mono (add Av1 D) (L2.upd H1 D (.lst [])) Av' H', ⟨_, rfl, Nat.zero_le _, [], wipeE env1 vs, add Av1 D, i0, f1, Mono.refl⟩, ?_⟩
  rintro i m H' ⟨rfl, hi, acc, env', Av', iv, f, m'⟩
  have m0 : Mono Av1 H1 Av' H' := (Mono.addNew hD).trans m'
  by_cases hlt : i < ds.length
  · obtain ⟨j1, j2⟩ := it.go i ds[i] Av' H' (List.getElem?_eq_getElem hlt) f.g.live m0
    refine .inr ⟨j1, fun H'' => i + 1 ≤ ds.length ∧ ∃ acc env' Av', Inv (i + 1) acc env' ∧ Fresh c Av' (L2.wipe σ vs) H'' env' D acc ∧ Mono (add Av1 D) (L2.upd H1 D (.lst [])) Av' H'', fun H'' ⟨h1, h2⟩ => ⟨ds.length - (i + 1), by omega, rfl, h1, h2⟩, fun xv Hx y => ?_⟩
    obtain ⟨gr, dx⟩ := j2 xv Hx y
    obtain ⟨avs, ha, hda⟩ := f.at_
    -- the turn begins at Hx
    have fx : Fresh c Av' (L2.wipe σ vs) Hx env' D acc := ⟨f.g.grow gr, f.inn, f.no, f.n0, f.h0, avs, gr _ _ ha, hda.mono (Mono.grow gr)⟩
    have mx : Mono (add Av1 D) (L2.upd H1 D (.lst [])) Av' Hx := m'.trans (Mono.grow gr)
    have hx : Hx D = some (.lst avs) := gr _ _ ha
    have dax : Dens Av' Hx avs acc := hda.mono (Mono.grow gr)
    refine hg (blkCn c D (L2.wipe σ vs) Hx env') Av' σ Hx env' xv ds[i] _ _ fx.hid.rebase dx (is i ds[i] acc env' (List.getElem?_eq_getElem hlt) iv) fun env2 Av2 σ2 H2 w2 q2 g2 m2 => ⟨w2, ?_⟩
    refine ⟨blkCn c D (L2.wipe σ vs) Hx env', Av2, env2, _, _, g2, q2, fun bb env3 Av3 H3 q3 g3 m3 => ?_, ex0⟩
    cases bb with
    | true =>
      refine ⟨blkCn c D (L2.wipe σ vs) Hx env', Av3, env3, _, _, g3, q3, fun y env4 vy Av4 H4 q4 g4 m4 dy => ?_, ex0⟩
      obtain ⟨hz, iv'⟩ := q4
      have mm : Mono Av' Hx Av4 H4 := (m2.trans m3).trans m4
      obtain ⟨u1, u2, u3, u4⟩ := fx.hid.unbase hx nt_lst g4 mm
      have u5 : Good c Av4 (L2.wipe σ vs) H4 (wipeE env4 vs) := by
        rw [← w2]; exact u1.wipe vs
      have nd : ∀ (j : Nat) s o, (wipeE env4 vs)[j]? = some s → (L2.wipe σ vs)[j]? = some o → ownA o s ≠ some D := by
        have : ∀ (ws : List Nat) (j : Nat) s o, (wipeE env4 ws)[j]? = some s → (L2.wipe σ2 ws)[j]? = some o → ownA o s ≠ some D := by
          intro ws
          induction ws with
          | nil => exact u2
          | cons v ws ih =>
            intro j s o e1 e2
            rw [wipeE, List.getElem?_set] at e1
            rw [L2.wipe, List.getElem?_set] at e2
            by_cases h : v = j
            · subst h
              rw [if_pos rfl] at e1
              split at e1
              · cases e1
                cases o with
                | none => exact fun z => nomatch z
                | some z => cases z <;> exact fun z => nomatch z
              · cases e1
            · rw [if_neg h] at e1 e2
              exact ih j s o e1 e2
        intro j s o e1 e2
        rw [← w2] at e2
        exact this vs j s o e1 e2
      refine ⟨avs, u4, by rw [dax.length]; exact hz, hlt, acc ++ [y], wipeE env4 vs, Av4, iv', ?_, ?_⟩
      · have mu : Mono Av4 H4 Av4 (L2.upd H4 D (.lst (avs ++ [vy]))) := Mono.upd u3
        refine ⟨⟨u5.len, fun j s o e1 e2 => (u5.ok j s o e1 e2).other u3 (nd j s o e1 e2) (fun b o hb e _ => by rw [upd_ne hb]; exact e), u5.sep, u5.lo, fun b hb => ?_, fun b o np e nt => ?_, fun b hb => ?_, tabs_but u5.tab u4 pla_lst fun b u hb e => by rw [upd_ne hb]; exact e⟩, u3, nd, fx.n0, fx.h0, _, upd_same, ((dax.mono mm).append (.cons dy .nil)).mono mu⟩
        · by_cases h : b = D
          · exact ⟨_, by rw [h]; exact upd_same, nt_lst⟩
          · obtain ⟨o, eo, nt⟩ := u5.live b hb
            exact ⟨o, by rw [upd_ne h]; exact eo, nt⟩
        · have hb : b ≠ D := fun z => fx.h0 ⟨o, z ▸ e, nt⟩
          rw [upd_ne hb]
          exact u5.fr b o np e nt
        · by_cases h : b = D
          · exact ⟨_, by rw [h]; exact upd_same, nt_lst⟩
          · obtain ⟨o, eo, nt⟩ := u5.pl b hb
            exact ⟨o, by rw [upd_ne h]; exact eo, nt⟩
      · exact (mx.trans mm).trans (Mono.upd u3)
    | false =>
      have mm : Mono Av' Hx Av3 H3 := m2.trans m3
      obtain ⟨u1, u2, u3, u4⟩ := fx.hid.unbase hx nt_lst g3 mm
      have u5 : Good c Av3 (L2.wipe σ vs) H3 (wipeE env3 vs) := by
        rw [← w2]; exact u1.wipe vs
      have nd : ∀ (j : Nat) s o, (wipeE env3 vs)[j]? = some s → (L2.wipe σ vs)[j]? = some o → ownA o s ≠ some D := by
        have : ∀ (ws : List Nat) (j : Nat) s o, (wipeE env3 ws)[j]? = some s → (L2.wipe σ2 ws)[j]? = some o → ownA o s ≠ some D := by
          intro ws
          induction ws with
          | nil => exact u2
          | cons v ws ih =>
            intro j s o e1 e2
            rw [wipeE, List.getElem?_set] at e1
            rw [L2.wipe, List.getElem?_set] at e2
            by_cases h : v = j
            · subst h
              rw [if_pos rfl] at e1
              split at e1
              · cases e1
                cases o with
                | none => exact fun z => nomatch z
                | some z => cases z <;> exact fun z => nomatch z
              · cases e1
            · rw [if_neg h] at e1 e2
              exact ih j s o e1 e2
        intro j s o e1 e2
        rw [← w2] at e2
        exact this vs j s o e1 e2
      exact ⟨hlt, acc, wipeE env3 vs, Av3, q3, ⟨u5, u3, nd, fx.n0, fx.h0, avs, u4, dax.mono mm⟩, mx.trans mm⟩
  · have e : i = ds.length := by omega
    subst e
    refine .inl ⟨it.stop Av' H' m0, k acc _ D Av' H' (id acc env' iv) ?_ (m1.trans m0)⟩
    have gg := g1.rest m0 pl f.g
    refine ⟨gg, f.inn, ?_, f.n0, f.h0, f.at_⟩
    intro j s o e1 e2 zz
    -- the names that were wiped own nothing; the others are f's
    have : ∀ (ws : List Nat), (∀ w ∈ ws, plainAt env1 w = true) → (restE env1 env' ws)[j]? = some s → (j ∈ ws ∧ ownA o s = none) ∨ (j ∉ ws ∧ env'[j]? = some s) := by
      intro ws
      induction ws with
      | nil => intro _ e; exact .inr ⟨List.not_mem_nil, e⟩
      | cons v ws ih =>
        intro hw e
        rw [restE, List.getElem?_set] at e
        by_cases h : v = j
        · subst h
          rw [if_pos rfl] at e
          split at e
          · cases e
            refine .inl ⟨List.mem_cons_self, ?_⟩
            have hp := hw v List.mem_cons_self
            unfold plainAt at hp
            cases q : env1.getD v .un with
            | un => cases o with
              | none => rfl
              | some w' => cases w' <;> rfl
            | val d => cases o with
              | none => rfl
              | some w' => cases w' <;> rfl
            | own ds => rw [q] at hp; cases hp
            | bor a ds => rw [q] at hp; cases hp
            | box b y => rw [q] at hp; cases hp
          · cases e
        · rw [if_neg h] at e
          rcases ih (fun x hx => hw x (List.mem_cons_of_mem _ hx)) e with ⟨h1, h2⟩ | ⟨h1, h2⟩
          · exact .inl ⟨List.mem_cons_of_mem _ h1, h2⟩
          · exact .inr ⟨fun z => (List.mem_cons.mp z).elim (fun z => h z.symm) h1, h2⟩
    rcases this vs (fun w hw => List.all_eq_true.mp pl w hw) e1 with ⟨_, h⟩ | ⟨h1, h2⟩
    · rw [h] at zz; cases zz
    · exact f.no j s o h2 (by rw [wipe_out h1]; exact e2) zz
theorem a_lc {elt tg iter : Expr} {ifs : List Expr} {scope : Scope} {own : List (Str × Nat)} {wi : AI} {g : TG} {wg : AG} {t : AT} {w : AE} (hc : X.calm = true) (hN : X.N.Nodup) (hi : PI X tg iter (liftI c Wx wi)) (ok : BlkOk X.N X.env.scope scope own)
    (hg : ∀ (s : Shared) (H : Hp) (C : Addr) (cl : List (Str × Addr)) (fp : List Addr), PG (X.blk s H scope (PySem.compEnvC scope cl C X.env) fp) tg g) (hw : ∀ c' : Cn τ, GOkV c' g wg (own.map (·.2)))
    (ht : ∀ (s : Shared) (H : Hp) (C : Addr) (cl : List (Str × Addr)) (fp : List Addr) (c' : Cn τ), PTs (X.blk s H scope (PySem.compEnvC scope cl C X.env) fp) ifs (liftT c' W0 t))
    (he : ∀ (s : Shared) (H : Hp) (C : Addr) (cl : List (Str × Addr)) (fp : List Addr) (c' : Cn τ), PE (X.blk s H scope (PySem.compEnvC scope cl C X.env) fp) elt (liftE c' W0 w)) (hs : ∀ x, foldedSetIterable iter X.env x = pure x := by intro _; rfl) :
    PE X (.ListComp elt [⟨tg, iter, ifs, 0⟩] scope pos) (liftF c Wx (wLc wi wg t w (own.map (·.2)))) :=
  PE.imp (lc_lift hw) (pe_lc hc hN hi ok hg (fun s H C cl fp => PTs.allC (ht s H C cl fp)) (fun s H C cl fp => PE.allC (he s H C cl fp)) hs)
end
end DL
set_option Elab.async false
set_option linter.all false
set_option maxRecDepth 100000
set_option maxHeartbeats 4000000
namespace DL
open PySem L2

/-! ### what can be shown, compared -/
def keyPy : Key → PyData
  | .inl i => .int i
  | .inr s => .str s
mutual
def D.py : D → Option PyData
  | .non => some .none
  | .bl b => some (.bool b)
  | .int i => some (.int i)
  | .str s => some (.str s)
  | .tup ds => (pys ds).map .tuple
  | .lst ds => (pys ds).map .list
  | .dic ks ds => if ks.length = ds.length then (pys ds).map fun ps => .dict ((ks.map keyPy).zip ps) else none
  | .ins _ _ _ => none
  | .err _ _ => none
  | .ty _ => none
  | .atm _ => none
  | .scr _ _ => none
def pys : List D → Option (List PyData)
  | [] => some []
  | d :: ds => match d.py, pys ds with
    | some p, some ps => some (p :: ps)
    | _, _ => none
end
theorem pys_len : ∀ {ds : List D} {ps : List PyData}, pys ds = some ps → ps.length = ds.length
  | [], ps, e => by simp [pys] at e; subst e; rfl
  | d :: ds, ps, e => by
    unfold pys at e
    split at e
    · rename_i p qs e1 e2
      cases e
      rw [List.length_cons, List.length_cons, pys_len e2]
    · cases e
section
variable {X : Cx} {pins : List (Addr × Obj)} {σ : L2.St} {H : Hp} {s : Shared} {Av : AvS}
theorem keys_reads {P : Program} {w : World} {h : Heap} : ∀ {es : List DictEntry} {vs : List (Key × Value)}, Pairs (mixKind P w) es vs → ReadsAll h (es.map (·.key)) (vs.map fun kv => keyPy kv.1) []
  | _, _, .nil => .nil
  | _, _, .cons (kv := kv) h1 h2 h3 => by
    have r := keys_reads (h := h) h3
    rcases keyIs_shape h1 with ⟨i, t, e1, e2⟩ | ⟨x, t, e1, e2⟩
    · rw [List.map_cons, List.map_cons, e2, e1]
      exact ReadsAll.cons (as := []) (Reads.int i t) r
    · rw [List.map_cons, List.map_cons, e2, e1]
      exact ReadsAll.cons (as := []) (Reads.str x t) r
theorem zip_fst {α β : Type} : ∀ {xs : List α} {ys : List β}, xs.length = ys.length → (xs.zip ys).map (·.1) = xs
  | [], _, _ => rfl
  | x :: xs, [], h => by simp at h
  | x :: xs, y :: ys, h => by rw [List.zip_cons_cons, List.map_cons, zip_fst (by simpa using h)]
theorem zip_snd {α β : Type} : ∀ {xs : List α} {ys : List β}, xs.length = ys.length → (xs.zip ys).map (·.2) = ys
  | [], [], _ => rfl
  | [], y :: ys, h => by simp at h
  | x :: xs, [], h => by simp at h
  | x :: xs, y :: ys, h => by rw [List.zip_cons_cons, List.map_cons, zip_snd (by simpa using h)]
theorem kv_vals {κ : Type} : ∀ {kvs : List (κ × V)} {vs : List (κ × Value)}, KV kvs vs → Vals (kvs.map (·.2)) (vs.map (·.2)) ∧ kvs.map (·.1) = vs.map (·.1)
  | _, _, .nil => ⟨.nil, rfl⟩
  | _, _, .cons h t => by
    obtain ⟨h1, h2⟩ := kv_vals t
    exact ⟨.cons h.2 h1, by rw [List.map_cons, List.map_cons, h2, h.1]⟩
theorem pairs_vals {P : Program} {w : World} : ∀ {es : List DictEntry} {vs : List (Key × Value)}, Pairs (mixKind P w) es vs → es.map (·.val) = vs.map (·.2)
  | _, _, .nil => rfl
  | _, _, .cons h1 h2 h3 => by rw [List.map_cons, List.map_cons, h2, pairs_vals h3]
mutual
theorem Den.reads (I : Inv X pins σ H s) (hS : ∀ a vs, H a = some (.lst vs) → a ≠ sysModules) : ∀ {v : V} {d : D}, Den Av H v d → ∀ {u : Value} {p : PyData}, d.py = some p → RelV v u → ∃ as, Reads s.heap u p as ∧ sysModules ∉ as
  | _, _, .non, u, p, e, r => by
    rw [D.py] at e; cases e
    cases r
    exact ⟨_, Reads.none, by simp⟩
  | _, _, .bl b, u, p, e, r => by
    rw [D.py] at e; cases e
    cases r
    exact ⟨_, Reads.bool b, by simp⟩
  | _, _, .int i, u, p, e, r => by
    rw [D.py] at e; cases e
    obtain ⟨t, rfl⟩ := r
    exact ⟨_, Reads.int i t, by simp⟩
  | _, _, .str x, u, p, e, r => by
    rw [D.py] at e; cases e
    obtain ⟨t, rfl⟩ := r
    exact ⟨_, Reads.str x t, by simp⟩
  | _, _, .tup (vs := vs) (ds := ds) h na q, u, p, e, r => by
    rw [D.py, Option.map_eq_some_iff] at e
    obtain ⟨ps, e1, rfl⟩ := e
    cases r
    obtain ⟨its, rv, ⟨o, ho, hc, n, hd⟩, _⟩ := I.tuple (.inl h)
    obtain ⟨as, h1, h2⟩ := Dens.reads I hS q e1 rv
    exact ⟨_, Reads.tuple ho hc hd h1, h2⟩
  | _, _, .lst (vs := vs) (ds := ds) h na q, u, p, e, r => by
    rw [D.py, Option.map_eq_some_iff] at e
    obtain ⟨ps, e1, rfl⟩ := e
    cases r
    obtain ⟨its, rv, ⟨o, n, ho, hc, _, hd⟩, _⟩ := I.list (.inl (.inl h))
    obtain ⟨as, h1, h2⟩ := Dens.reads I hS q e1 rv
    exact ⟨_, Reads.list ho hc hd h1, by simp only [List.mem_cons, not_or]; exact ⟨(hS _ _ h).symm, h2⟩⟩
  | _, _, .dic (kvs := kvs) (ds := ds) h na q, u, p, e, r => by
    rw [D.py] at e
    split at e
    · rename_i hl
      rw [Option.map_eq_some_iff] at e
      obtain ⟨ps, e1, rfl⟩ := e
      cases r
      obtain ⟨hz, hm, vs, kv, o, es, ep, ho, hx, hd, hk, hp, hn⟩ := dk_rd I.hok (.inl h)
      obtain ⟨k1, k2⟩ := kv_vals kv
      obtain ⟨as, h1, h2⟩ := Dens.reads I hS q e1 k1
      have hl' : ((kvs.map (·.1)).map keyPy).length = ps.length := by rw [List.length_map, hl, pys_len e1]
      refine ⟨_, Reads.dict (as := []) (bs := as) ho hx.1 hd ?_ ?_, ?_⟩
      · rw [zip_fst hl', k2, List.map_map]
        exact keys_reads hp
      · rw [zip_snd hl', pairs_vals hp]
        exact h1
      · simp only [List.append_nil, List.cons_append, List.mem_cons, not_or, List.nil_append]
        exact ⟨fun z => (beq_eq_false_iff_ne.mp hm) z.symm, h2⟩
    · cases e
  | _, _, .ins _ _ _, u, p, e, r => by rw [D.py] at e; cases e
  | _, _, .err _ _ _ _ _, u, p, e, r => by rw [D.py] at e; cases e
  | _, _, .errK _ _ _ _ _, u, p, e, r => by rw [D.py] at e; cases e
  | _, _, .ty _, u, p, e, r => by rw [D.py] at e; cases e
  | _, _, .atm _, u, p, e, r => by rw [D.py] at e; cases e
  | _, _, .scr _ _, u, p, e, r => by rw [D.py] at e; cases e
  | _, _, .scrK _, u, p, e, r => by rw [D.py] at e; cases e
theorem Dens.reads (I : Inv X pins σ H s) (hS : ∀ a vs, H a = some (.lst vs) → a ≠ sysModules) : ∀ {vs : List V} {ds : List D}, Dens Av H vs ds → ∀ {us : List Value} {ps : List PyData}, pys ds = some ps → Vals vs us → ∃ as, ReadsAll s.heap us ps as ∧ sysModules ∉ as
  | _, _, .nil, us, ps, e, r => by
    rw [pys] at e; cases e
    cases r
    exact ⟨_, ReadsAll.nil, by simp⟩
  | _, _, .cons h t, us, ps, e, r => by
    rw [pys] at e
    split at e
    · rename_i p qs e1 e2
      cases e
      cases r with
      | cons r1 r2 =>
        obtain ⟨as, h1, h2⟩ := Den.reads I hS h e1 r1
        obtain ⟨bs, h3, h4⟩ := Dens.reads I hS t e2 r2
        exact ⟨_, ReadsAll.cons h1 h3, by rw [List.mem_append, not_or]; exact ⟨h2, h4⟩⟩
    · cases e
end
theorem SysB.ne (hS : SysB X.base) (I : Inv X pins σ H s) : ∀ a vs, H a = some (.lst vs) → a ≠ sysModules := fun a vs e z => by
  obtain ⟨o, ho⟩ := hS
  have h1 := (I.bs _ _ ho).2
  rw [z, h1] at e; cases e
end
/-! ### == and != -/
def eqD (neg : Bool) : D → D → (D → Prop) → Prop := fun x y k => ∃ p q, x.py = some p ∧ y.py = some q ∧ (SeqAt.shaped p && SeqAt.shaped q) = true ∧ k (.bl (if neg then !PyData.eqv p q else PyData.eqv p q))
section
variable {X : Cx} {τ : TBL} {c : Cn τ} {Wx : WX} {e a b : Expr} {es : List Expr} {pos p : Pos} {wa wb : AE}
/-- an operation whose rule asks for what the whole state says -/
def OpI (X : Cx) (f : Value → Value → Sem Value) (R : R2D) : Prop := ∀ (pins : List (Addr × Obj)) (s : Shared) (σ : L2.St) (H : Hp) (Av : AvS) (x y : V) (v u : Value) (d1 d2 : D) (k : D → Prop) (Q : VK), Inv X pins σ H s → Live Av H → RelV x v → RelV y u → Den Av H x d1 → Den Av H y d2 → R d1 d2 k →
  (∀ d v H', k d → Grow H H' → Den Av H' v d → Q v H') → wpAny (model X.prog X.w) X.A (f v u) (EP X pins σ Q) X.xe s
/-- as a rule by values: what the operands tell is said within -/
def rD (R : R2D) : R2 := fun x y H Q => ∃ Av d1 d2 k, Live Av H ∧ Den Av H x d1 ∧ Den Av H y d2 ∧ R d1 d2 k ∧ ∀ d v H', k d → Grow H H' → Den Av H' v d → Q v H'
theorem opr_of {f : Value → Value → Sem Value} {R : R2D} (h : OpI X f R) : OpR X f (rD R) := fun pins s σ H x y v u Q I rx ry ⟨Av, d1, d2, k, hl, h1, h2, r, kk⟩ => h pins s σ H Av x y v u d1 d2 k Q I hl rx ry h1 h2 r kk
theorem opd_rD {R : R2D} : OpD (rD R) R := fun Av H x y d1 d2 k Q hl h1 h2 r kk => ⟨Av, d1, d2, k, hl, h1, h2, r, kk⟩
theorem opi_eq (hS : SysB X.base) (hu : X.A.units + 64 < cLine) : OpI X (compareOp .Eq) (eqD false) := by
  intro pins s σ H Av x y v u d1 d2 k Q I hl rx ry h1 h2 ⟨p, q, e1, e2, e3, r⟩ kk
  obtain ⟨as, r1, _⟩ := h1.reads I (hS.ne I) e1 rx
  obtain ⟨bs, r2, _⟩ := h2.reads I (hS.ne I) e2 ry
  rw [Bool.and_eq_true] at e3
  exact SeqAt.compareEq_shaped r1 r2 e3.1 e3.2 hu ⟨.bl _, H, I, rfl, kk _ _ H r Grow.refl (.bl _)⟩
theorem opi_ne (hS : SysB X.base) (hu : X.A.units + 64 < cLine) : OpI X (compareOp .NotEq) (eqD true) := by
  intro pins s σ H Av x y v u d1 d2 k Q I hl rx ry h1 h2 ⟨p, q, e1, e2, e3, r⟩ kk
  obtain ⟨as, r1, _⟩ := h1.reads I (hS.ne I) e1 rx
  obtain ⟨bs, r2, _⟩ := h2.reads I (hS.ne I) e2 ry
  rw [Bool.and_eq_true] at e3
  exact SeqAt.compareNe_shaped r1 r2 e3.1 e3.2 hu ⟨.bl _, H, I, rfl, kk _ _ H r Grow.refl (.bl _)⟩
theorem a_eq (hS : SysB X.base) (hu : X.A.units + 64 < cLine) (ha : PE X a (liftE c Wx wa)) (hb : PE X b (liftE c Wx wb)) : PE X (.Compare a [.Eq] [b] pos) (liftE c Wx (wOp (eqD false) wa wb)) := a_cmp (opr_of (opi_eq hS hu)) opd_rD ha hb (nomark _)
theorem a_ne (hS : SysB X.base) (hu : X.A.units + 64 < cLine) (ha : PE X a (liftE c Wx wa)) (hb : PE X b (liftE c Wx wb)) : PE X (.Compare a [.NotEq] [b] pos) (liftE c Wx (wOp (eqD true) wa wb)) := a_cmp (opr_of (opi_ne hS hu)) opd_rD ha hb (nomark _)
theorem t_eq (hS : SysB X.base) (hu : X.A.units + 64 < cLine) (ha : PE X a (liftE c Wx wa)) (hb : PE X b (liftE c Wx wb)) : PT X (.Compare a [.Eq] [b] pos) (liftT c Wx (wB (wOp (eqD false) wa wb))) := t_cmp (opr_of (opi_eq hS hu)) opd_rD ha hb (nomark _)
theorem t_ne (hS : SysB X.base) (hu : X.A.units + 64 < cLine) (ha : PE X a (liftE c Wx wa)) (hb : PE X b (liftE c Wx wb)) : PT X (.Compare a [.NotEq] [b] pos) (liftT c Wx (wB (wOp (eqD true) wa wb))) := t_cmp (opr_of (opi_ne hS hu)) opd_rD ha hb (nomark _)
end
end DL
set_option Elab.async false
set_option linter.all false
set_option maxRecDepth 100000
set_option maxHeartbeats 4000000
namespace DL
open PySem L2
/-! ### calls of what is built in -/
abbrev RC := List D → (D → Prop) → Prop
abbrev RF := List D → (List D → Prop) → Prop
def CallI (X : Cx) (f : Value) (R : RC) : Prop := ∀ (pins : List (Addr × Obj)) (s : Shared) (σ : L2.St) (H : Hp) (Av : AvS) (xs : List V) (us : List Value) (ds : List D) (k : D → Prop) (Q : VK), Inv X pins σ H s → Live Av H → Vals xs us → Dens Av H xs ds → R ds k →
  (∀ d v H', k d → Grow H H' → Den Av H' v d → Q v H') → wpAny (model X.prog X.w) X.A (call f us) (EP X pins σ Q) X.xe s
def rC (R : RC) : List V → Hp → VK → Prop := fun xs H Q => ∃ Av ds k, Live Av H ∧ Dens Av H xs ds ∧ R ds k ∧ ∀ d v H', k d → Grow H H' → Den Av H' v d → Q v H'
def CallD (r : List V → Hp → VK → Prop) (R : RC) : Prop := ∀ Av H xs ds k Q, Live Av H → Dens Av H xs ds → R ds k → (∀ d v H', k d → Grow H H' → Den Av H' v d → Q v H') → r xs H Q
def CallF (r : List V → Hp → VK → Prop) (R : RF) : Prop := ∀ Av H xs ds k Q, Live Av H → Dens Av H xs ds → R ds k → (∀ es vs p, k es → H p = none → Dens Av H vs es → Q (.ref p) (L2.upd H p (.lst vs))) → r xs H Q
def wCB (R : RC) (w : AA) (env : Env) (Q : D → Env → Prop) (X : AX) : Prop := w env (fun as env' => agR as 0 = [] ∧ R (agDs as) fun d => Q d env') X
def wCBF (R : RF) (w : AA) (env : Env) (Q : List D → Env → Prop) (X : AX) : Prop := w env (fun as env' => agR as 0 = [] ∧ R (agDs as) fun ds => Q ds env') X
section
variable {X : Cx} {τ : TBL} {c : Cn τ} {Wx : WX} {e a b : Expr} {es : List Expr} {pos p : Pos} {f : Value} {R : RC} {RF' : RF} {r : List V → Hp → VK → Prop} {w : AA} {x : Str} {id T : String}
theorem callR_of (h : CallI X f R) : CallR X f (rC R) := fun pins s σ H xs us Q I rv ⟨Av, ds, k, hl, hd, hr, kk⟩ => h pins s σ H Av xs us ds k Q I hl rv hd hr kk
theorem callD_rC : CallD (rC R) R := fun Av H xs ds k Q hl hd hr kk => ⟨Av, ds, k, hl, hd, hr, kk⟩
theorem cb_lift (hr : CallD r R) : ∀ σ H Q, liftE c Wx (wCB R w) σ H Q → tCB r (liftA c Wx w) σ H Q := fun σ H Q ⟨Av, env, Qa, Xa, g, q, k, x⟩ =>
  ⟨Av, env, _, Xa, g, q, fun as env' vs Av' H' ⟨e1, q'⟩ g' m' d' => hr Av' H' vs (agDs as) _ Q g'.live (agR_none e1 d') q' fun d v H'' kd gr dv => k d env' v Av' H'' kd (g'.grow gr) (m'.trans (Mono.grow gr)) dv, x⟩
theorem cbf_lift (hr : CallF r RF') : ∀ σ H Q, liftF c Wx (wCBF RF' w) σ H Q → tCB r (liftA c Wx w) σ H Q := fun σ H Q ⟨Av, env, Qa, Xa, g, q, k, x⟩ =>
  ⟨Av, env, _, Xa, g, q, fun as env' vs Av' H' ⟨e1, q'⟩ g' m' d' => hr Av' H' vs (agDs as) _ Q g'.live (agR_none e1 d') q' fun ds vs' p kd hp dv => k ds env' p (add Av' p) _ kd (g'.fresh hp dv) (m'.trans (Mono.addNew hp)), x⟩
theorem a_cb (hc : CallR X (.builtin id) r) (hr : CallD r R) (hg : Gl X x) (hm : X.mg x = none) (hv : bootBuiltins x = some (.builtin id)) (ha : PA X (e :: es) (liftA c Wx w)) (hn : x ≠ "__name__" := by decide) (hdb : (x == ("__debug__" : Str)) = false := by decide)
    (he : starEach (e :: es) X.env = (false, eval e X.env) :: starEach es X.env := by rfl) (hpl : (backTo pos (starEach es X.env)).any (·.1) = false := by rfl) : PE X (.Call (.Name x p) (e :: es) [] pos) (liftE c Wx (wCB R w)) := PE.imp (cb_lift hr) (pe_callB hc hg hm hv ha hn hdb he hpl)
theorem a_cbF (hc : CallR X (.builtin id) r) (hr : CallF r RF') (hg : Gl X x) (hm : X.mg x = none) (hv : bootBuiltins x = some (.builtin id)) (ha : PA X (e :: es) (liftA c Wx w)) (hn : x ≠ "__name__" := by decide) (hdb : (x == ("__debug__" : Str)) = false := by decide)
    (he : starEach (e :: es) X.env = (false, eval e X.env) :: starEach es X.env := by rfl) (hpl : (backTo pos (starEach es X.env)).any (·.1) = false := by rfl) : PE X (.Call (.Name x p) (e :: es) [] pos) (liftF c Wx (wCBF RF' w)) := PE.imp (cbf_lift hr) (pe_callB hc hg hm hv ha hn hdb he hpl)
theorem a_ct (hc : CallR X (.type T) r) (hr : CallD r R) (hg : Gl X x) (hm : X.mg x = none) (hv : bootBuiltins x = some (.type T)) (ha : PA X (e :: es) (liftA c Wx w)) (hn : x ≠ "__name__" := by decide) (hdb : (x == ("__debug__" : Str)) = false := by decide)
    (he : starEach (e :: es) X.env = (false, eval e X.env) :: starEach es X.env := by rfl) (hpl : (backTo pos (starEach es X.env)).any (·.1) = false := by rfl) : PE X (.Call (.Name x p) (e :: es) [] pos) (liftE c Wx (wCB R w)) := PE.imp (cb_lift hr) (pe_callTy hc hg hm hv ha hn hdb he hpl)
theorem a_ctF (hc : CallR X (.type T) r) (hr : CallF r RF') (hg : Gl X x) (hm : X.mg x = none) (hv : bootBuiltins x = some (.type T)) (ha : PA X (e :: es) (liftA c Wx w)) (hn : x ≠ "__name__" := by decide) (hdb : (x == ("__debug__" : Str)) = false := by decide)
    (he : starEach (e :: es) X.env = (false, eval e X.env) :: starEach es X.env := by rfl) (hpl : (backTo pos (starEach es X.env)).any (·.1) = false := by rfl) : PE X (.Call (.Name x p) (e :: es) [] pos) (liftF c Wx (wCBF RF' w)) := PE.imp (cbf_lift hr) (pe_callTy hc hg hm hv ha hn hdb he hpl)
end
/-! len -/
def lenD (K : PySem.W.Frag) : RC := fun ds k => match ds with
  | [.lst xs] => k (.int xs.length)
  | [.tup xs] => k (.int xs.length)
  | [.scr K' ns] => K' = K ∧ k (.int ns.length)
  | [.str s] => s.length ≤ sizeLine ∧ k (.int s.length)
  | _ => False
theorem calld_len {K : PySem.W.Frag} : CallD (fun xs H Q => ∃ x n, xs = [x] ∧ LenV K x H n ∧ Q (.int n) H) (lenD K) := by
  intro Av H xs ds k Q hl hd hr kk
  cases hd with
  | nil => exact hr.elim
  | cons h t =>
    cases t with
    | cons => cases h <;> exact hr.elim
    | nil =>
      cases h with
      | lst h na q => exact ⟨_, _, rfl, .inl ⟨_, .inl (.inl h), rfl⟩, by rw [q.length]; exact kk _ _ H hr Grow.refl (.int _)⟩
      | tup h na q => exact ⟨_, _, rfl, .inr ⟨_, .inl h, rfl⟩, by rw [q.length]; exact kk _ _ H hr Grow.refl (.int _)⟩
      | scr h na => exact ⟨_, _, rfl, .inl ⟨_, .inl h, rfl⟩, by rw [List.length_map]; exact kk _ _ H hr.2 Grow.refl (.int _)⟩
      | scrK h => obtain ⟨rfl, hr⟩ := hr; exact ⟨_, _, rfl, .inl ⟨_, .inr h, rfl⟩, by rw [List.length_map]; exact kk _ _ H hr Grow.refl (.int _)⟩
      | str s => exact ⟨_, _, rfl, ⟨hr.1, rfl⟩, kk _ _ H hr.2 Grow.refl (.int _)⟩
      | _ => exact hr.elim
/-- of a list that may change -/
def wLenM (i : Nat) (env : Env) (Q : D → Env → Prop) (_ : AX) : Prop := ∃ s ds, env[i]? = some s ∧ mutOf s = some ds ∧ Q (.int ds.length) env
section
variable {X : Cx} {τ : TBL} {c : Cn τ} {Wx : WX} {e a b : Expr} {es : List Expr} {pos p p' : Pos} {x : Str} {w : AA} {we : AE}
theorem a_lenM {i : Nat} (hg : Gl X "len") (hm : X.mg "len" = none) (hp : PE X (.Name x p') (tVar i)) (he : starEach [.Name x p'] X.env = (false, eval (.Name x p') X.env) :: starEach [] X.env := by rfl) (hpl : (backTo pos (starEach [] X.env)).any (·.1) = false := by rfl) :
    PE X (.Call (.Name "len" p) [.Name x p'] [] pos) (liftE c Wx (wLenM i)) := PE.imp (fun σ H Q ⟨Av, env, Qa, Xa, g, ⟨s, ds, e1, e2, q⟩, k, x⟩ => by
      obtain ⟨a, vs, e3, e4, e5, e6, _⟩ := g.mutAt e1 e2
      exact ⟨_, e3, _, _, rfl, .inl ⟨_, .inl (.inl e5), rfl⟩, by rw [e6.length]; exact k _ env _ Av H q g Mono.refl (.int _)⟩) (pe_callB call_len hg hm PySem.boot_len (pa_cons hp pa_nil he) (by decide) (by decide) he hpl)
/-! numbers -/
def absD : RC := fun ds k => match ds with
  | [.int i] => k (.int (if i < 0 then -i else i))
  | _ => False
theorem calld_abs : CallD (fun xs H Q => ∃ i, xs = [.int i] ∧ Q (.int (if i < 0 then -i else i)) H) absD := by
  intro Av H xs ds k Q hl hd hr kk
  cases hd with
  | nil => exact hr.elim
  | cons h t =>
    cases t with
    | cons => cases h <;> exact hr.elim
    | nil =>
      cases h with
      | int i => exact ⟨i, rfl, kk _ _ H hr Grow.refl (.int _)⟩
      | _ => exact hr.elim
def maxD : RC := fun ds k => match ds with
  | [.int i, .int j] => k (.int (if j > i then j else i))
  | _ => False
def minD : RC := fun ds k => match ds with
  | [.int i, .int j] => k (.int (if j < i then j else i))
  | _ => False
theorem calld_max2 : CallD (fun xs H Q => ∃ i j, xs = [.int i, .int j] ∧ Q (.int (if j > i then j else i)) H) maxD := by
  intro Av H xs ds k Q hl hd hr kk
  cases hd with
  | nil => exact hr.elim
  | cons h t =>
    cases t with
    | nil => cases h <;> exact hr.elim
    | cons h2 t2 =>
      cases t2 with
      | cons => cases h <;> cases h2 <;> exact hr.elim
      | nil =>
        cases h with
        | int i =>
          cases h2 with
          | int j => exact ⟨i, j, rfl, kk _ _ H hr Grow.refl (.int _)⟩
          | _ => exact hr.elim
        | _ => cases h2 <;> exact hr.elim
theorem calld_min2 : CallD (fun xs H Q => ∃ i j, xs = [.int i, .int j] ∧ Q (.int (if j < i then j else i)) H) minD := by
  intro Av H xs ds k Q hl hd hr kk
  cases hd with
  | nil => exact hr.elim
  | cons h t =>
    cases t with
    | nil => cases h <;> exact hr.elim
    | cons h2 t2 =>
      cases t2 with
      | cons => cases h <;> cases h2 <;> exact hr.elim
      | nil =>
        cases h with
        | int i =>
          cases h2 with
          | int j => exact ⟨i, j, rfl, kk _ _ H hr Grow.refl (.int _)⟩
          | _ => exact hr.elim
        | _ => cases h2 <;> exact hr.elim
def intC : RC := fun ds k => match ds with
  | [.int i] => k (.int i)
  | [.bl b] => k (.int (if b then 1 else 0))
  | _ => False
theorem calld_int : CallD (fun xs H Q => (∃ i, xs = [.int i] ∧ Q (.int i) H) ∨ ∃ k, xs = [.bl k] ∧ Q (.int (if k then 1 else 0)) H) intC := by
  intro Av H xs ds k Q hl hd hr kk
  cases hd with
  | nil => exact hr.elim
  | cons h t =>
    cases t with
    | cons => cases h <;> exact hr.elim
    | nil =>
      cases h with
      | int i => exact .inl ⟨i, rfl, kk _ _ H hr Grow.refl (.int _)⟩
      | bl b => exact .inr ⟨b, rfl, kk _ _ H hr Grow.refl (.int _)⟩
      | _ => exact hr.elim
/-! all(list of bools) -/
def allD : RC := fun ds k => match ds with
  | [.lst xs] => ∃ bs : List Bool, xs = bs.map D.bl ∧ k (.bl (bs.all fun b => b))
  | _ => False
theorem calld_all {K : PySem.W.Frag} : CallD (rAll K) allD := by
  intro Av H xs ds k Q hl hd hr kk
  cases hd with
  | nil => exact hr.elim
  | cons h t =>
    cases t with
    | cons => cases h <;> exact hr.elim
    | nil =>
      cases h with
      | lst h na q =>
        obtain ⟨bs, rfl, hr⟩ := hr
        have e := q.inj_bls
        subst e
        exact ⟨_, bs, rfl, .inl (.inl h), kk _ _ H hr Grow.refl (.bl _)⟩
      | _ => exact hr.elim
/-! list(..), tuple(..) -/
def listF : RF := fun ds k => match ds with
  | [.lst xs] => k xs
  | [.tup xs] => k xs
  | _ => False
theorem callf_list {K : PySem.W.Frag} : CallF (fun xs H Q => ∃ p ys, xs = [.ref p] ∧ (SqL K H p ys ∨ SqT K H p ys) ∧ ∀ l, H l = none → Q (.ref l) (L2.upd H l (.lst ys))) listF := by
  intro Av H xs ds k Q hl hd hr kk
  cases hd with
  | nil => exact hr.elim
  | cons h t =>
    cases t with
    | cons => cases h <;> exact hr.elim
    | nil =>
      cases h with
      | lst h na q => exact ⟨_, _, rfl, .inl (.inl (.inl h)), fun l hp => kk _ _ l hr hp q⟩
      | tup h na q => exact ⟨_, _, rfl, .inr (.inl h), fun l hp => kk _ _ l hr hp q⟩
      | _ => exact hr.elim
def tupC : RC := fun ds k => match ds with
  | [.lst xs] => k (.tup xs)
  | [.tup xs] => k (.tup xs)
  | _ => False
theorem calld_tuple {K : PySem.W.Frag} : CallD (fun xs H Q => ∃ p ys, xs = [.ref p] ∧ ((SqL K H p ys ∧ ∀ l, H l = none → Q (.ref l) (L2.upd H l (.tup ys))) ∨ (SqT K H p ys ∧ Q (.ref p) H))) tupC := by
  intro Av H xs ds k Q hl hd hr kk
  cases hd with
  | nil => exact hr.elim
  | cons h t =>
    cases t with
    | cons => cases h <;> exact hr.elim
    | nil =>
      cases h with
      | lst h na q => exact ⟨_, _, rfl, .inl ⟨.inl (.inl h), fun l hp => kk _ _ _ hr (keepNew hp) (.tup (.inl upd_same) (fun z => nosol hp (hl l z)) (q.mono (Mono.new hp)))⟩⟩
      | tup h na q => exact ⟨_, _, rfl, .inr ⟨.inl h, kk _ _ H hr Grow.refl (.tup h na q)⟩⟩
      | _ => exact hr.elim
/-! repr -/
def reprD : RC := fun ds k => match ds with
  | [d] => ∃ p, d.py = some p ∧ (p.showable = true ∧ p.depth ≤ 60 ∧ p.shown.length ≤ sizeLine) ∧ k (.str p.shown)
  | _ => False
theorem calli_repr (hS : SysB X.base) (hG : Calm X.A) (hu : X.A.units + 64 < cLine) : CallI X (.builtin "repr") reprD := by
  intro pins s σ H Av xs us ds k Q I hl rv hd hr kk
  cases hd with
  | nil => exact hr.elim
  | cons h t =>
    cases t with
    | cons => exact hr.elim
    | nil =>
      obtain ⟨p, e1, ⟨e2, e3, e4⟩, kp⟩ := hr
      cases rv with
      | @cons _ u _ _ r0 r1 =>
        cases r1
        have fin : ∀ (t : Tok) (s' : Shared), Inv X pins σ H s' → EP X pins σ Q (.str p.shown t) s' := fun t s' J => ⟨.str p.shown, H, J, ⟨_, rfl⟩, kk _ _ H kp Grow.refl (.str _)⟩
        have big : ∀ (a : Addr), u = .ref a → wpAny (model X.prog X.w) X.A (call (.builtin "repr") [u]) (EP X pins σ Q) X.xe s := fun a ea => by
          obtain ⟨as, h1, h2⟩ := h.reads I (hS.ne I) e1 r0
          subst ea
          exact repr_of_reads' h1 e2 (fun _ => h2) hG (by omega) (fun _ _ e => e) (fun h' u tk hk => fin _ _ (I.kept hk)) e4
        cases h with
        | non => cases r0; rw [D.py] at e1; cases e1; exact PySem.P.repr_of_none (fin _ _ (I.tok _))
        | bl b => cases r0; rw [D.py] at e1; cases e1; exact PySem.P.repr_of_bool (fin _ _ (I.tok _))
        | int i =>
          obtain ⟨t, rfl⟩ := r0
          rw [D.py] at e1; cases e1
          exact PySem.P.repr_of_int (of_decide_eq_true (by simpa [PyData.showable] using e2)) (fin _ _ (I.tok _))
        | str y =>
          obtain ⟨t, rfl⟩ := r0
          rw [D.py] at e1; cases e1
          exact PySem.P.repr_of_str (fin _ _ (I.tok _)) (by simpa [PyData.shown] using e4)
        | ty n => rw [D.py] at e1; cases e1
        | atm a => rw [D.py] at e1; cases e1
        | tup => exact big _ r0
        | lst => exact big _ r0
        | dic => exact big _ r0
        | ins => exact big _ r0
        | err => exact big _ r0
        | errK => exact big _ r0
        | scr => exact big _ r0
        | scrK => exact big _ r0
end
end DL
set_option Elab.async false
set_option linter.all false
set_option maxRecDepth 100000
set_option maxHeartbeats 4000000
namespace DLE
open PySem PySem.Spec PySem.Calls PyProof.Rows PySem.W
section
variable {prog : Program} {w : World} {A : Around} {E : Value → Shared → Prop} {s : Shared} {K : Frag} {x D : Addr} {ox : Obj} {od : Option Obj}
/-- x.__class__ of an exception of an own class, whatever its dict -/
theorem class_of_exc {Q : Option Value → Shared → Prop} (T : L2.ExcC K D) (X : K.In s.heap) (I : InstAt s.heap x ox D od) (h : Q (some (.ref D)) { s with toks := s.toks + 1 }) : wpAny (model prog w) A (getAttr? (.ref x) "__class__") Q E s := by
  obtain ⟨hga, hgt, hsub, hdct, ha, hn, htk, hm⟩ := T
  have hf : findObj K D od "__class__" = some (.bind (.builtin "getset_descriptor.__get__") (.builtin "object.__class__")) := by
    have hs : (clsIn K D).isSome = true := by
      obtain ⟨cd, hc, _⟩ := any_some hdct
      rw [hc]; rfl
    cases od with
    | none => exact findObj_dataN hs ha hn htk
    | some o => exact findObj_data hs ha hn htk
  have e2 : (Value.builtin "BaseException.__getattribute__" == Value.builtin "object.__getattribute__") = false := by decide +kernel
  have e1 : (onTheHeap (Value.ref D) && Value.builtin "BaseException.__getattribute__" == Value.builtin "object.__getattribute__") = false := by rw [e2]; rfl
  have e0 : (false && onTheHeap (Value.builtin "BaseException.__getattribute__")) = false := rfl
  obtain ⟨hp, gs, dr, tk, os⟩ := s
  have lT := I.type (M := model prog w)
  have lF := looks_find (M := model prog w) X I hf
  have lS : Looks (model prog w) hp (isInstance (.ref x) (.type "BaseException")) true := lT.andThen (looks_subIn X hsub)
  unfold getAttr? getAttrBy? getAttrBy
  refine wpAny_bind (wpAny_mkText (wpAny_bind (wpAny_attempt (wpAny_holding (wpAny_bind (lT.at (wpAny_bind ((looks_findIn (M := model prog w) X hga).at ?_))))))))
  show wpAny _ _ (if (onTheHeap (Value.ref D) && Value.builtin "BaseException.__getattribute__" == Value.builtin "object.__getattribute__") = true then _ else _) _ _ _
  rw [e1, if_neg Bool.false_ne_true]
  unfold getAttrByItsOwn hookBefore
  refine wpAny_bind ?_
  rw [if_pos (show onTheHeap (Value.ref D) = true from rfl)]
  refine (looks_findIn (M := model prog w) X hgt).at (wpAny_bind (wpAny_attempt (wpAny_holding ?_)))
  unfold callGetattribute
  rw [e0, if_neg Bool.false_ne_true]
  unfold boundAndCalled
  rw [PySem.F.excAttr_ValueError.ga.bind (.ref x)]
  refine wpAny_bind (wpAny_pure ?_)
  show wpAny _ _ (call (.builtin "BaseException.__getattribute__") [.ref x, .str "__class__" tk]) _ _ _
  refine wpAny_call (codeAny_call_builtin PySem.F.excAttr_ValueError.ga.plain PySem.F.entry_bexc_ga (@check_slot (model prog w) _ _ ⟨hp, gs, dr, tk + 1, os⟩ "BaseException.__getattribute__" "BaseException" "__getattribute__" (.ref x) [.str "__class__" tk] [] _ (by decide +kernel) (by decide +kernel) lS (PySem.F.args_bexc_ga (.ref x) (.str "__class__" tk)) ?_))
  unfold Builtin.«object.__getattribute__»
  refine wpAny_bind (wpAny_of_eq (a := ((Value.ref x : Value), [Value.str "__class__" tk])) (by first | rfl | (simp only [slotArgs]; rfl)) (wpAny_bind (wpAny_pure (wpAny_bind (lT.at (wpAny_bind (lF.at ?_)))))))
  show wpAny _ _ (holding [Value.builtin "object.__class__"] (call (.builtin "getset_descriptor.__get__") [.builtin "object.__class__", .ref x, .ref D]) >>= ret) _ _ _
  refine wpAny_bind (wpAny_holding (wpAny_call (class_get (s := ⟨hp, gs, dr, tk + 1, os⟩) (ox := ox) (od := od) X I hm (wpAny_pure ?_))))
  show wpAny _ _ (handedOut (.ref D)) _ _ _
  rw [handedOut_of (v := .ref D) rfl]
  first
    | exact wpAny_pure (wpAny_pure h)
    | exact wpAny_pure h
    | exact wpAny_pure (wpAny_bind (wpAny_pure (wpAny_pure h)))
/-- what isinstance asks of such an exception -/
theorem kit_exc (T : L2.ExcC K D) : KitX K (.ref x) (.ref D) (fun h => InstAt h x ox D od) where
  ty := fun _ _ _ I => I.type
  it := fun M h k I => by
    obtain ⟨cd, hc, _⟩ := any_some T.hd
    unfold clsIn at hc
    split at hc
    · rename_i c' d' cd' sl' ho
      intro A' Q' E' s' kk q
      unfold isType loadHead
      exact wpAny_bind (wpAny_loadPart (kk _ _ (k _ _ ho)) (wpAny_pure q))
    · cases hc
  ne := (handS_kitx_exc (x := x) (ox := ox) T.hg T.hk T.hs T.hd T.ha T.hn T.ht T.hm).ne
  ca := fun X I k => class_of_exc T X I k
end
end DLE
namespace DL
open PySem L2
theorem inst_of {X : Cx} {pins : List (Addr × Obj)} {σ : L2.St} {H : Hp} {s : Shared} {a C d : Addr} {fs : List (Str × V)} (I : Inv X pins σ H s) (h1 : H a = some (exo a C (some d))) (h2 : H d = some (exd d fs)) :
    ∃ (ox od : Obj) (mA : Str → Option Value), PySem.W.InstAt s.heap a ox C (some od) ∧ (∀ name, PySem.W.lookIn name od = some (mA name)) ∧ ∀ f, RelO (fs.lookup f) (mA f) := by
  obtain ⟨t1, ho⟩ := exo_at I.hok h1
  obtain ⟨mA, hns, rel⟩ := exd_at I.hok h2
  obtain ⟨od, e, l⟩ := lookIn_ns hns
  exact ⟨_, od, mA, ⟨ho, rfl, rfl, e⟩, l, rel⟩
theorem inst_ofK {X : Cx} {pins : List (Addr × Obj)} {σ : L2.St} {H : Hp} {s : Shared} {a C d : Addr} {fs : List (Str × V)} (I : Inv X pins σ H s) (h1 : H a = some (DLK.ExK a (.ref C) (some d))) (h2 : H d = some (.xd fs)) :
    ∃ (ox od : Obj) (mA : Str → Option Value), PySem.W.InstAt s.heap a ox C (some od) ∧ (∀ name, PySem.W.lookIn name od = some (mA name)) ∧ ∀ f, RelO (fs.lookup f) (mA f) := by
  obtain ⟨oe, vs, ho, hz, hd⟩ := DLK.exK_at I.hok h1
  have hx : ObjOk X.prog X.w H s.heap d (.xd fs) := I.hok d _ h2
  obtain ⟨mA, hns, rel⟩ := hx
  obtain ⟨od, e, l⟩ := lookIn_ns hns
  exact ⟨oe, od, mA, ⟨ho, hz.1, by unfold PySem.W.notCls; rw [hd] <;> rfl, by rw [hz.2]; exact e⟩, l, rel⟩
/-! ### isinstance -/
/-- the own classes whose instances are exceptions -/
inductive TyD (K : PySem.W.Frag) : D → Value → Prop
  | non : TyD K .non (.type "NoneType")
  | bl (b : Bool) : TyD K (.bl b) (.type "bool")
  | int (i : Int) : TyD K (.int i) (.type "int")
  | str (s : Str) : TyD K (.str s) (.type "str")
  | lst (ds : List D) : TyD K (.lst ds) (.type "list")
  | tup (ds : List D) : TyD K (.tup ds) (.type "tuple")
  | dic (ks : List Key) (ds : List D) : TyD K (.dic ks ds) (.type "dict")
  | err {C : Addr} (d : D) (T : ExcC K C) : TyD K (.err C d) (.ref C)
  | ins {C : Addr} (ks : List Str) (ds : List D) (cl : Cls K C) (ha : PySem.W.findIn K (.ref C) "__class__" = some (some (.builtin "object.__class__"))) (hn : PySem.W.specialIn K (.builtin "object.__class__") "__get__" = some (some (.builtin "getset_descriptor.__get__")))
      (htk : PySem.W.takesIn K (.builtin "object.__class__") = some true) (hm : PySem.W.mroIn K C (.type "object") = some true) : TyD K (.ins C ks ds) (.ref C)
inductive ClsD : D → Value → Prop
  | ty (n : String) : ClsD (.ty n) (.type n)
  | own (C : Addr) : ClsD (.atm C) (.ref C)
def isiD (K : PySem.W.Frag) : RC := fun ds k => match ds with
  | [x, cd] => ∃ t u b, TyD K x t ∧ ClsD cd u ∧ PySem.W.kitOne K t u = some b ∧ k (.bl b)
  | _ => False
theorem calli_isi {X : Cx} : CallI X (.builtin "isinstance") (isiD X.K) := by
  intro pins s σ H Av xs us ds k Q I hl rv hd hr kk
  cases hd with
  | nil => exact hr.elim
  | cons h1 t =>
    cases t with
    | nil => exact hr.elim
    | cons h2 t2 =>
      cases t2 with
      | cons => exact hr.elim
      | nil =>
        obtain ⟨t, u, b, ty, cl, ki, kb⟩ := hr
        obtain ⟨u1, u2, rfl, r1, r2⟩ := vals2 rv
        have eu : u2 = u := by
          cases cl with
          | ty n => cases h2; exact r2
          | own C => cases h2; exact r2
        subst eu
        have fin : ∀ tk, EP X pins σ Q (.bool b) { s with toks := tk } := fun tk => ⟨.bl b, H, I.tok tk, rfl, kk _ _ H kb Grow.refl (.bl b)⟩
        have viaX : ∀ {x : V}, RelV x u1 → TyX X.K H x t → wpAny (model X.prog X.w) X.A (call (.builtin "isinstance") [u1, u2]) (EP X pins σ Q) X.xe s := fun rx tx => by
          obtain ⟨P, Z, p, hx⟩ := kit_of I rx tx
          exact PySem.W.kia_one Z I.kIn p ki hx fin
        cases ty with
        | non => cases h1; exact viaX r1 (.base .non)
        | bl b => cases h1; exact viaX r1 (.base (.bl b))
        | int i => cases h1; exact viaX r1 (.base (.int i))
        | str s => cases h1; exact viaX r1 (.base (.str s))
        | lst ds => cases h1 with
          | lst h na q => exact viaX r1 (.base (.lst h))
        | tup ds => cases h1 with
          | tup h na q =>
            rcases h with h | ⟨o, h⟩
            · exact viaX r1 (.base (.tup h))
            · exact viaX r1 (.fTuple h)
        | dic ks ds => cases h1 with
          | dic h na q =>
            exact viaX r1 (.base (.dK h))
        | err d T => cases h1 with
          | err h h' na ne q =>
            obtain ⟨ox, od, mA, J, _⟩ := inst_of I h h'
            cases r1
            exact PySem.W.kia_one (DLE.kit_exc T) I.kIn J ki (fun z => nomatch z) fin
          | errK h h' na ne q =>
            obtain ⟨ox, od, mA, J, _⟩ := inst_ofK I h h'
            cases r1
            exact PySem.W.kia_one (DLE.kit_exc T) I.kIn J ki (fun z => nomatch z) fin
        | ins ks ds cl' ha hn htk hm => cases h1 with
          | ins h na q => exact viaX r1 (.base (.ins h cl' ha hn htk hm))
/-! ### an exception as a value: made, its value read -/
/-- self.value = value, of a fresh exception -/
def spInitE (K : PySem.W.Frag) : Sp := fun vs H Q _ => ∃ a C v, vs = [.ref a, v] ∧ OexC K C ∧ PySem.W.findIn K (.ref C) "value" = some none ∧ H a = some (exo a C none) ∧ ∀ dx, H dx = none → dx ≠ a → Q .non (upd (upd H dx (exd dx [("value", v)])) a (exo a C (some dx)))
structure ErrC (K : PySem.W.Frag) (mg : Str → Option Value) (x : Str) (C fI : Addr) : Prop where
  o : OexC K C
  nv : PySem.W.findIn K (.ref C) "value" = some none
  iC : PySem.W.findIn K (.ref C) "__init__" = some (some (.ref fI))
  tI : PySem.W.typeIn K (.ref fI) = some (.type "function")
  mg : mg x = some (.ref C)
  ec : ExcC K C
theorem calm_make0 {A : Around} (h : Calm A) (C : Addr) (us : List Value) (kw : List (Str × Value)) : Calm (A.under (.builtin "type.__call__" ⟨.ref C :: us, kw⟩)) := by
  have e : (Code.builtin "type.__call__" ⟨.ref C :: us, kw⟩).guards = [] := by
    unfold Code.guards
    rw [if_neg]
    have : (Code.builtin "type.__call__" ⟨.ref C :: us, kw⟩).isGuard = guardIds.contains "type.__call__" := rfl
    rw [this]
    decide
  show pushGuards (Code.builtin "type.__call__" ⟨.ref C :: us, kw⟩).guards A.guards = some []
  rw [e, show A.guards = some [] from h]
  rfl
theorem calm_make {cal : Bool} {A : Around} (h : CalmB cal A) (C : Addr) (us : List Value) (kw : List (Str × Value)) : CalmB cal (A.under (.builtin "type.__call__" ⟨.ref C :: us, kw⟩)) := fun z => calm_make0 (h z) C us kw
def tMkE (C : Addr) (ta : TA) : TE := fun σ H Q => ta σ H fun vs H1 => ∃ v, vs = [v] ∧ ∀ a d, H1 a = none → H1 d = none → d ≠ a → Q (.ref a) (upd (upd H1 d (exd d [("value", v)])) a (exo a C (some d)))
section
variable {cal : Bool} {X : Cx} {τ : TBL} {c : Cn τ} {Wx : WX} {e a b : Expr} {es : List Expr} {pos p : Pos} {x : Str} {w : AA} {we : AE} {C fI : Addr} {fd : FuncData} {k : Nat}
theorem pe_mkE {ta : TA} (T : ErrC X.K X.mg x C fI) (F : FnG X.prog X.w X.K X.mg X.base cal k fI fd ["self", "value"] (spInitE X.K)) (hr : Room (k + 1) X.A) (hG : CalmB cal X.A) (hb : Binds X.K fd ["self", "value"] []) (hg : Gl X x) (ha : PA X (e :: es) ta)
    (hdb : (x == ("__debug__" : Str)) = false := by decide) (he : starEach (e :: es) X.env = (false, eval e X.env) :: starEach es X.env := by rfl) (hpl : (backTo pos (starEach es X.env)).any (·.1) = false := by rfl) :
    PE X (.Call (.Name x p) (e :: es) [] pos) (tMkE C ta) := by
  refine ⟨fun pins s σ H Q I h => ?_⟩
  obtain ⟨nm, q, N, bs, bm, sn, sub, ab, col, dd, k0, k1, k2, k3, k5, hC, hbm⟩ := T.o.cls
  refine PySem.wpAny_Call_Name_kw (ld_glob I hg T.mg (PySem.W.callWith_K (h₀ := X.base) I.ok.mod.kin T.o.kC (thn (ha.run pos pins s σ H _ I h) fun us s1 ⟨vs, H1, I1, r1, v, ev, q1⟩ => ⟨I1.kIn, ?_⟩) he hpl) hdb)
  show wpAny _ _ (call (.ref C) us) _ _ _
  subst ev
  obtain ⟨u, rfl, ru⟩ := r1.one
  obtain ⟨hp, gs, dr, tk, os⟩ := s1
  have big : hp.objs.size ≤ hp.objs.size + 1 := Nat.le_succ _
  have hn : H1 (hp.objs.size + 1) = none := I1.hok.fresh big
  have up : ∀ b o, hp.get? b = some o → ((hp.push (PySem.W.kdv_tup [u])).push (PySem.HandSPX.excO C hp.objs.size)).get? b = some o := fun b o z => Heap.get?_push_of_some _ (Heap.get?_push_of_some _ z)
  have here : ((hp.push (PySem.W.kdv_tup [u])).push (PySem.HandSPX.excO C hp.objs.size)).get? (hp.objs.size + 1) = some (PySem.HandSPX.excO C hp.objs.size) := by heap_get
  have I2 : Inv X pins σ (upd H1 (hp.objs.size + 1) (exo (hp.objs.size + 1) C none)) ⟨(hp.push (PySem.W.kdv_tup [u])).push (PySem.HandSPX.excO C hp.objs.size), gs, dr, tk, os⟩ :=
    I1.laid (t' := tk) (a := hp.objs.size + 1) (o := exo (hp.objs.size + 1) C none) (h' := (hp.push (PySem.W.kdv_tup [u])).push (PySem.HandSPX.excO C hp.objs.size)) up big (exo_ok here)
  have bd := hb ⟨(hp.push (PySem.W.kdv_tup [u])).push (PySem.HandSPX.excO C hp.objs.size), gs, dr, tk, os⟩ [Value.ref (hp.objs.size + 1), u] I2.kIn rfl
  refine wpAny_call (PySem.HandSPX.call_own PySem.F.excBase_ValueError (fun Y => PySem.HandSPX.refsVE_contains Y bm hbm) (I1.kIn _ _ hC) (PySem.W.looks_findIn I1.kIn T.iC) (fun self => PySem.W.bind_fn I1.kIn self T.tI) (by show 1 ≤ sizeLine; decide)
    (codeAny_mono (F.run _ (hr.make C [u] []) (calm_make hG C [u] []) X.stack _ _ (I2.env0.make C [u] []) ⟨[Value.ref (hp.objs.size + 1), u], []⟩ [Value.ref (hp.objs.size + 1), u] [V.ref (hp.objs.size + 1), v] bd (.cons rfl (.cons ru .nil))
      (fun z H2 => z = .non ∧ ∃ dx, H1 dx = none ∧ dx ≠ hp.objs.size + 1 ∧ H2 = upd (upd (upd H1 (hp.objs.size + 1) (exo (hp.objs.size + 1) C none)) dx (exd dx [("value", v)])) (hp.objs.size + 1) (exo (hp.objs.size + 1) C (some dx))) (fun _ _ _ => False)
      ⟨_, C, v, rfl, T.o, T.nv, upd_same, fun dx hd hne => ⟨rfl, dx, by rw [upd_ne hne] at hd; exact hd, hne, rfl⟩⟩) fun r s' hq' => ?_))
  cases r with
  | error er =>
    obtain ⟨_, _, _, _, _, _, _, _, _, _, _, _, z⟩ := hq'
    exact z.elim
  | ok fl =>
    cases fl with
    | ret u' =>
      obtain ⟨z, H2, I3, rv, ez, dx, h1, h2, e2⟩ := I2.after hq'
      subst ez
      refine ⟨rv, ⟨V.ref (hp.objs.size + 1), H2, I3, rfl, ?_⟩⟩
      have e3 : H2 = upd (upd H1 dx (exd dx [("value", v)])) (hp.objs.size + 1) (exo (hp.objs.size + 1) C (some dx)) := by
        rw [e2]
        funext y
        by_cases hy : y = hp.objs.size + 1
        · rw [hy, upd_same, upd_same]
        · rw [upd_ne hy, upd_ne hy]
          by_cases hz : y = dx
          · rw [hz, upd_same, upd_same]
          · rw [upd_ne hz, upd_ne hz, upd_ne hy]
      rw [e3]
      exact q1 _ dx hn h1 h2
    | next => exact False.elim hq'
    | brk => exact False.elim hq'
    | cont => exact False.elim hq'
def wMkE (C : Addr) (w : AA) (env : Env) (Q : D → Env → Prop) (X : AX) : Prop := w env (fun as env' => ∃ d, as = [.vl d] ∧ Q (.err C d) env') X
theorem a_mkE (T : ErrC X.K X.mg x C fI) (F : FnG X.prog X.w X.K X.mg X.base cal k fI fd ["self", "value"] (spInitE X.K)) (hr : Room (k + 1) X.A) (hG : CalmB cal X.A) (hb : Binds X.K fd ["self", "value"] []) (hg : Gl X x) (ha : PA X (e :: es) (liftA c Wx w))
    (hdb : (x == ("__debug__" : Str)) = false := by decide) (he : starEach (e :: es) X.env = (false, eval e X.env) :: starEach es X.env := by rfl) (hpl : (backTo pos (starEach es X.env)).any (·.1) = false := by rfl) :
    PE X (.Call (.Name x p) (e :: es) [] pos) (liftE c Wx (wMkE C w)) := PE.imp (fun σ H Q ⟨Av, env, Qa, Xa, g, q, k, x⟩ =>
      ⟨Av, env, _, Xa, g, q, fun as env' vs Av' H' ⟨d, ea, q'⟩ g' m' d' => by
        subst ea
        cases d' with
        | @cons v0 _ _ _ h t =>
          cases t
          refine ⟨_, rfl, fun a dd h1 h2 h3 => ?_⟩
          have ne1 : Grow H' (upd (upd H' dd (exd dd [("value", v0)])) a (exo a C (some dd))) := fun b o e => by rw [upd_ne (ne_of_none e h1), upd_ne (ne_of_none e h2)]; exact e
          exact k _ env' _ Av' _ q' (g'.grow ne1) (m'.trans (Mono.grow ne1)) (.err upd_same (by rw [upd_ne h3, upd_same]) (g'.notAv h1) (g'.notAv h2) (Den.mono (Mono.grow ne1) h)), x⟩) (pe_mkE T F hr hG hb hg ha hdb he hpl)
/-- e.value -/
def wValE (K : PySem.W.Frag) (we : AE) (env : Env) (Q : D → Env → Prop) (X : AX) : Prop := we env (fun d env' => ∃ C d', d = .err C d' ∧ (ExcC K C ∧ PySem.W.findIn K (.ref C) "value" = some none) ∧ Q d' env') X
theorem a_valE (he : PE X e (liftE c Wx we)) (hb : attributeBase e "value" X.env (eval e X.env) = eval e X.env := by rfl) : PE X (.Attribute e "value" pos) (liftE c Wx (wValE X.K we)) := by
  refine ⟨fun pins s σ H Q I ⟨Av, env, Qa, Xa, g, q, k, x⟩ => attr_of hb (thn (he.run pins s σ H (fun v H' => ∃ Av' env' C d', Good c Av' σ H' env' ∧ Mono Av H Av' H' ∧ Den Av' H' v (.err C d') ∧ (ExcC X.K C ∧ PySem.W.findIn X.K (.ref C) "value" = some none) ∧ Qa d' env') I
    ⟨Av, env, _, Xa, g, q, fun d env' v Av' H' ⟨C, d', ed, hT, q'⟩ g' m' dn => by subst ed; exact ⟨Av', env', C, d', g', m', dn, hT, q'⟩, x⟩) fun u s1 ⟨v, H1, I1, rv, Av1, env1, C, d', g1, m1, dn, ⟨T, hnv⟩, q1⟩ => ?_)⟩
  cases dn with
  | @err a C e v d h h' na ne dv =>
    cases rv
    obtain ⟨ox, od, mA, J, l, rel⟩ := inst_of I1 h h'
    obtain ⟨uv, hu, ru⟩ := RelO.some_of (v := v) (o := mA "value") (rel "value")
    exact PySem.HandSPX.exc_get I1.kIn J T.hg T.hk T.hs (PySem.W.findObj_own T.hd hnv rfl (by rw [l, hu])) (handed_of ru) ⟨v, H1, I1.tok _, ru, k d' env1 v Av1 H1 q1 g1 m1 dv⟩
  | @errK a C e v d h h' na ne dv =>
    cases rv
    obtain ⟨ox, od, mA, J, l, rel⟩ := inst_ofK I1 h h'
    obtain ⟨uv, hu, ru⟩ := RelO.some_of (v := v) (o := mA "value") (rel "value")
    exact PySem.HandSPX.exc_get I1.kIn J T.hg T.hk T.hs (PySem.W.findObj_own T.hd hnv rfl (by rw [l, hu])) (handed_of ru) ⟨v, H1, I1.tok _, ru, k d' env1 v Av1 H1 q1 g1 m1 dv⟩
end
end DL
set_option Elab.async false
set_option linter.all false
set_option maxRecDepth 100000
set_option maxHeartbeats 4000000
namespace DL
open PySem L2
section
variable {X : Cx} {τ : TBL} {c : Cn τ} {Wx : WX} {e a b : Expr} {es : List Expr} {pos p p' : Pos} {x : Str} {w : AA} {we wa wb : AE}
/-! ### targets within a comprehension; pairs -/
theorem wipe_set {σ : L2.St} {j : Nat} {o : Option V} : ∀ {vs : List Nat}, j ∈ vs → wipe (σ.set j o) vs = wipe σ vs := by
  intro vs hj
  refine List.ext_getElem? fun i => ?_
  by_cases hi : i ∈ vs
  · by_cases hl : i < σ.length
    · have key : ∀ (τ : L2.St), τ.length = σ.length → (wipe τ vs)[i]? = some none := fun τ ht => by
        have h1 : i < (wipe τ vs).length := by rw [wipe_length, ht]; exact hl
        rw [List.getElem?_eq_getElem h1]
        cases q : (wipe τ vs)[i] with
        | none => rfl
        | some z =>
          have := (wipe_some (σ := τ) (vs := vs) (i := i) (x := z) (by rw [List.getElem?_eq_getElem h1, q])).2
          exact absurd hi this
      rw [key _ (by rw [List.length_set]), key _ rfl]
    · rw [List.getElem?_eq_none (by rw [wipe_length, List.length_set]; omega), List.getElem?_eq_none (by rw [wipe_length]; omega)]
  · have hij : j ≠ i := fun z => hi (z ▸ hj)
    rw [wipe_out hi, wipe_out hi, List.getElem?_set_ne hij]
/-- a target that stores names of the block alone, from whatever stands -/
def GOkW {τ : TBL} (c : Cn τ) (g : TG) (w : AG) (vs : List Nat) : Prop := ∀ Av σ H env v d Qe Q, Good c Av σ H env → Den Av H v d → w d env Qe → (∀ env' Av' σ' H', wipe σ' vs = wipe σ vs → Qe env' → Good c Av' σ' H' env' → Mono Av H Av' H' → Q σ' H') → g v σ H Q
theorem wipe_wipe {σ : L2.St} {vs : List Nat} : wipe (wipe σ vs) vs = wipe σ vs := by
  have key : ∀ ws : List Nat, (∀ w ∈ ws, w ∈ vs) → wipe (wipe σ ws) vs = wipe σ vs := by
    intro ws
    induction ws with
    | nil => intro _; rfl
    | cons w ws ih =>
      intro h
      rw [wipe, wipe_set (h w List.mem_cons_self)]
      exact ih fun z hz => h z (List.mem_cons_of_mem _ hz)
  exact key vs fun _ h => h
theorem GOkW.v {g : TG} {w : AG} {vs : List Nat} (h : GOkW c g w vs) : GOkV c g w vs := fun Av σ₀ H env v d Qe Q g' hd q k => h Av _ H env v d Qe Q g' hd q fun env' Av' σ' H' e q' g'' m => k env' Av' σ' H' (by rw [e, wipe_wipe]) q' g'' m
theorem gokw_name {j : Nat} {vs : List Nat} (hj : j ∈ vs) : GOkW c (gName j) (gN j) vs := fun Av σ H env v d Qe Q g hd q k => k _ Av _ H (wipe_set hj) q (g.setVal hd j) Mono.refl
abbrev AGs := List D → Env → (Env → Prop) → Prop
def gNilD (ds : List D) (env : Env) (Q : Env → Prop) : Prop := ds = [] ∧ Q env
def gConsD (g : AG) (gs : AGs) (ds : List D) (env : Env) (Q : Env → Prop) : Prop := ∃ d r, ds = d :: r ∧ g d env fun env' => gs r env' Q
def gTupD (n : Nat) (gs : AGs) (d : D) (env : Env) (Q : Env → Prop) : Prop := ∃ ds, d = .tup ds ∧ ds.length = n ∧ gs ds env Q
def GsOk {τ : TBL} (c : Cn τ) (g : TGs) (w : AGs) (vs : List Nat) : Prop := ∀ Av σ H env xs ds Qe Q, Good c Av σ H env → Dens Av H xs ds → w ds env Qe → (∀ env' Av' σ' H', wipe σ' vs = wipe σ vs → Qe env' → Good c Av' σ' H' env' → Mono Av H Av' H' → Q σ' H') → g xs σ H Q
theorem gsok_nil {vs : List Nat} : GsOk c gNil gNilD vs := fun Av σ H env xs ds Qe Q g hd ⟨e, q⟩ k => by
  subst e
  cases hd
  exact ⟨rfl, k env Av σ H rfl q g Mono.refl⟩
theorem gsok_cons {t : TG} {u : TGs} {w : AG} {ws : AGs} {vs : List Nat} (h : GOkW c t w vs) (hs : GsOk c u ws vs) : GsOk c (gCons t u) (gConsD w ws) vs := fun Av σ H env xs ds Qe Q g hd ⟨d, r, e, q⟩ k => by
  subst e
  cases hd with
  | @cons v vr _ _ h1 t1 =>
    exact ⟨v, vr, rfl, h Av σ H env v d _ _ g h1 q fun env' Av' σ' H' e1 q' g' m' => hs Av' σ' H' env' vr r _ _ g' (t1.mono m') q' fun env'' Av'' σ'' H'' e2 q'' g'' m'' => k env'' Av'' σ'' H'' (e2.trans e1) q'' g'' (m'.trans m'')⟩
theorem gokw_tup {K : PySem.W.Frag} {n : Nat} {t : TGs} {ws : AGs} {vs : List Nat} (h : GsOk c t ws vs) : GOkW c (gTup K n t) (gTupD n ws) vs := fun Av σ H env v d Qe Q g hd ⟨ds, e, hl, q⟩ k => by
  subst e
  cases hd with
  | tup h1 na qs => exact ⟨_, _, rfl, .inl h1, by rw [qs.length]; exact hl, h Av σ H env _ ds Qe Q g qs q k⟩
theorem GOkW.ok {g : TG} {w : AG} {vs : List Nat} (h : GOkW c g w vs) : GOk c g w := fun Av σ H env v d Qe Q g' hd q k => h Av σ H env v d Qe Q g' hd q fun env' Av' σ' H' _ q' g'' m => k env' Av' σ' H' q' g'' m

/-! ### enumerate -/
def enumD : Nat → List D → List D
  | _, [] => []
  | n, d :: ds => .tup [.int n, d] :: enumD (n + 1) ds
theorem enumD_len : ∀ (n : Nat) (ds : List D), (enumD n ds).length = ds.length
  | _, [] => rfl
  | n, d :: ds => by rw [enumD, List.length_cons, List.length_cons, enumD_len]
theorem enumD_get : ∀ (n : Nat) (ds : List D) (i : Nat) (d : D), (enumD n ds)[i]? = some d → ∃ y, ds[i]? = some y ∧ d = .tup [.int ((n + i : Nat) : Int), y]
  | _, [], i, d, e => by simp [enumD] at e
  | n, y :: ds, 0, d, e => by simp [enumD] at e; exact ⟨y, rfl, by rw [← e]; rfl⟩
  | n, y :: ds, i + 1, d, e => by
    obtain ⟨z, h1, h2⟩ := enumD_get (n + 1) ds i d (by simpa [enumD] using e)
    exact ⟨z, by simpa using h1, by rw [h2, show n + 1 + i = n + (i + 1) by omega]⟩
theorem itd_enum {K : PySem.W.Frag} {Av : AvS} {H : Hp} {a : Addr} {vs : List V} {ds : List D} (h : H a = some (.lst vs)) (na : ¬ Av a) (q : Dens Av H vs ds) : ItD Av H (Ite K a) (enumD 0 ds) where
  go := fun i d Av1 H1 e hl m => by
    obtain ⟨y, e1, rfl⟩ := enumD_get 0 ds i d e
    obtain ⟨v, e2, e3⟩ := q.get e1
    have r : SqL K H1 a vs := .inl (.inl (m.kp _ _ na h nt_lst))
    refine ⟨⟨vs, v, r, e2⟩, fun x H' yy => ?_⟩
    obtain ⟨T, x', rfl, hT, rfl, hx⟩ := yy
    have e4 := hx vs r
    rw [e2] at e4; cases e4
    refine ⟨keepNew hT, .tup (.inl upd_same) (fun z => ?_) (.cons ?_ (.cons (e3.mono (m.trans (Mono.new hT))) .nil))⟩
    · exact nosol hT (hl T z)
    · rw [Nat.zero_add]; exact .int _
  stop := fun Av1 H1 m => ⟨vs, .inl (.inl (m.kp _ _ na h nt_lst)), by rw [enumD_len]; exact Nat.le_of_eq q.length⟩
def wEnum (w : AE) (env : Env) (Q : List D → Env → Prop) (X : AX) : Prop := w env (fun d env' => ∃ ds, d = .lst ds ∧ Q (enumD 0 ds) env') X
theorem i_enum {tpos : Pos} {elts : List Expr} {kk : Nat} {wa : AE} (hg : Gl X "enumerate") (hm : X.mg "enumerate" = none) (ha : PE X e (liftE c Wx wa)) (hs : starEach [e] X.env = (false, eval e X.env) :: starEach [] X.env := by rfl) :
    PI X (.Tuple elts kk tpos) (.Call (.Name "enumerate" p) [e] [] pos) (liftI c Wx (wEnum wa)) := PI.imp (fun σ H R ⟨Av, env, Qa, Xa, g, q, k, x⟩ =>
      ⟨Av, env, _, Xa, g, q, fun d env' v Av' H' q' g' m' d' => by
        obtain ⟨ds, rfl, q'⟩ := q'
        cases d' with
        | lst h na qs => exact ⟨_, _, rfl, .inl (.inl h), k _ env' Av' H' _ q' g' m' (itd_enum h na qs)⟩, x⟩) (pi_enum hg hm (pa_cons ha pa_nil hs) hs)

/-! ### methods of a list that may change -/
def wAppend (i : Nat) (wa : AE) (env : Env) (Q : D → Env → Prop) (X : AX) : Prop := (∃ s ds, env[i]? = some s ∧ mutOf s = some ds) ∧ wa env (fun d env1 => ∃ s ds, env1[i]? = some s ∧ mutOf s = some ds ∧ ds.length < sizeLine ∧ Q .non (env1.set i (setMut s (ds ++ [d])))) X
def wExtend (i : Nat) (wa : AE) (env : Env) (Q : D → Env → Prop) (X : AX) : Prop := (∃ s ds, env[i]? = some s ∧ mutOf s = some ds) ∧ wa env (fun d env1 => ∃ s ds es, env1[i]? = some s ∧ mutOf s = some ds ∧ d = .lst es ∧ ds.length + es.length ≤ sizeLine ∧ Q .non (env1.set i (setMut s (ds ++ es)))) X
section
variable {i : Nat} {apos cpos : Pos}
theorem a_append (hp : PE X (.Name x p) (tVar i)) (ha : PE X e (liftE c Wx wa))
    (hbase : attributeBase (.Name x p) "append" X.env (eval (.Name x p) X.env) = eval (.Name x p) X.env := by rfl)
    (hfew : ((backTo cpos (starEach [e] X.env)).all (fun x => !x.1) && (backToKw cpos (keywordEach [] X.env)).all (fun x => x.1.isSome)
      && decide (([e] : List Expr).length + ([] : List Keyword).length + (if ([] : List Keyword).isEmpty then 0 else 1) < 30)) = true := by rfl)
    (hline : (apos.endLine == cpos.line) = true := by rfl) (hs : starEach [e] X.env = (false, eval e X.env) :: starEach [] X.env := by rfl) (hplain : (backTo cpos (starEach [] X.env)).any (·.1) = false := by rfl) :
    PE X (.Call (.Attribute (.Name x p) "append" apos) [e] [] cpos) (liftE c Wx (wAppend i wa)) := PE.imp (fun σ H Q ⟨Av, env, Qa, Xa, g, ⟨⟨s, ds, e1, e2⟩, q⟩, k, x⟩ => by
      obtain ⟨a, vs, e3, av, e4, _⟩ := g.mutAt e1 e2
      refine ⟨_, e3, .inl ⟨rfl, _, .inl (.inl e4)⟩, Av, env, _, Xa, g, q, fun d env1 v Av1 H1 q1 g1 m1 d1 => ?_, x⟩
      obtain ⟨s', ds', f1, f2, f3, q1⟩ := q1
      obtain ⟨a', vs', f4, av', f5, f6, f7⟩ := g1.mutAt f1 f2
      rw [e3] at f4; cases f4
      obtain ⟨g2, m2⟩ := f7 _ _ (f6.append (.cons d1 .nil))
      exact ⟨a, vs', v, rfl, rfl, f5, by rw [f6.length]; exact f3, k _ _ _ Av1 _ q1 g2 (m1.trans m2) .non⟩) (pe_bm PySem.F.plainAttrs_list PySem.F.slot_list_append PySem.F.type_list_append mt_append hp (pa_cons ha pa_nil hs) hbase hfew hline hs hplain)
theorem a_extend (hp : PE X (.Name x p) (tVar i)) (ha : PE X e (liftE c Wx wa))
    (hbase : attributeBase (.Name x p) "extend" X.env (eval (.Name x p) X.env) = eval (.Name x p) X.env := by rfl)
    (hfew : ((backTo cpos (starEach [e] X.env)).all (fun x => !x.1) && (backToKw cpos (keywordEach [] X.env)).all (fun x => x.1.isSome)
      && decide (([e] : List Expr).length + ([] : List Keyword).length + (if ([] : List Keyword).isEmpty then 0 else 1) < 30)) = true := by rfl)
    (hline : (apos.endLine == cpos.line) = true := by rfl) (hs : starEach [e] X.env = (false, eval e X.env) :: starEach [] X.env := by rfl) (hplain : (backTo cpos (starEach [] X.env)).any (·.1) = false := by rfl) :
    PE X (.Call (.Attribute (.Name x p) "extend" apos) [e] [] cpos) (liftE c Wx (wExtend i wa)) := PE.imp (fun σ H Q ⟨Av, env, Qa, Xa, g, ⟨⟨s, ds, e1, e2⟩, q⟩, k, x⟩ => by
      obtain ⟨a, vs, e3, av, e4, _⟩ := g.mutAt e1 e2
      refine ⟨_, e3, .inl ⟨rfl, _, .inl (.inl e4)⟩, Av, env, _, Xa, g, q, fun d env1 v Av1 H1 q1 g1 m1 d1 => ?_, x⟩
      obtain ⟨s', ds', es, f1, f2, rfl, f3, q1⟩ := q1
      obtain ⟨a', vs', f4, av', f5, f6, f7⟩ := g1.mutAt f1 f2
      rw [e3] at f4; cases f4
      cases d1 with
      | lst h na qs =>
        obtain ⟨g2, m2⟩ := f7 _ _ (f6.append qs)
        exact ⟨a, _, vs', _, rfl, rfl, f5, h, by rw [f6.length, qs.length]; exact f3, k _ _ _ Av1 _ q1 g2 (m1.trans m2) .non⟩) (pe_bm PySem.F.plainAttrs_list PySem.F.slot_list_extend PySem.F.type_list_extend mt_extend hp (pa_cons ha pa_nil hs) hbase hfew hline hs hplain)
end

/-! ### list(range(..)) -/
theorem rgV_den {Av : AvS} {H : Hp} : ∀ (n : Nat) (lo : Int), Dens Av H ((List.range n).map fun i => V.int (lo + (i : Nat))) (intsFrom lo n)
  | 0, _ => .nil
  | n + 1, lo => by
    rw [List.range_succ_eq_map, List.map_cons, List.map_map, intsFrom]
    have h := rgV_den (Av := Av) (H := H) n (lo + 1)
    refine .cons (by simpa using Den.int lo) ?_
    have e : ((fun i : Nat => V.int (lo + (i : Nat))) ∘ Nat.succ) = fun i : Nat => V.int (lo + 1 + (i : Nat)) := by
      funext i
      show V.int (lo + ((i + 1 : Nat) : Int)) = V.int (lo + 1 + (i : Int))
      congr 1
      omega
    rw [e]
    exact h
def wLRg1 (wa : AE) (env : Env) (Q : List D → Env → Prop) (X : AX) : Prop := wa env (fun d env' => ∃ n, d = .int n ∧ RgOk 0 n ∧ Q (intsFrom 0 n.toNat) env') X
theorem a_lrg1 {p1 p2 pos2 : Pos} (hc : X.calm = true) (hg : Gl X "list") (hm : X.mg "list" = none) (hg' : Gl X "range") (hm' : X.mg "range" = none) (ha : PE X a (liftE c Wx wa)) (na : starEach [a] X.env = (false, eval a X.env) :: starEach [] X.env := by rfl)
    (na2 : starEach [.Call (.Name "range" p2) [a] [] pos2] X.env = (false, eval (.Call (.Name "range" p2) [a] [] pos2) X.env) :: starEach [] X.env := by rfl) :
    PE X (.Call (.Name "list" p1) [.Call (.Name "range" p2) [a] [] pos2] [] pos) (liftF c Wx (wLRg1 wa)) := PE.imp (fun σ H Q ⟨Av, env, Qa, Xa, g, q, k, x⟩ =>
      ⟨Av, env, _, Xa, g, q, fun d env' v Av' H' q' g' m' d' => by
        obtain ⟨n, rfl, ok, q'⟩ := q'
        cases d'
        refine ⟨n, rfl, ok, fun pp hp => k _ env' pp (add Av' pp) _ q' (g'.fresh hp ?_) (m'.trans (Mono.addNew hp))⟩
        unfold rgV
        rw [Int.sub_zero]
        exact rgV_den n.toNat 0, x⟩) (pe_listRg hc hg hm (prg_1 hg' hm' ha na) na2)

/-! ### dict displays with keys that stand there -/
def wDNew (env : Env) (Q : D → Env → Prop) (_ : AX) : Prop := Q (.dic [] []) env
theorem a_dnew : PE X (.Dict [] [] pos) (liftE c Wx wDNew) := PE.imp (fun σ H Q ⟨Av, env, Qa, Xa, g, q, k, x⟩ p hp =>
  k _ env (.ref p) Av _ q (g.new hp) (Mono.new hp) (.dic (kvs := []) upd_same (g.notAv hp) .nil)) pe_dnewK
def wVals : List AE → Env → (List D → Env → Prop) → Prop
  | [], env, Q => Q [] env
  | w :: ws, env, Q => w env (fun d env1 => wVals ws env1 fun ds env2 => Q (d :: ds) env2) X0
def wDic (ks : List Key) (ws : List AE) (env : Env) (Q : D → Env → Prop) (_ : AX) : Prop := (ks.length = ws.length ∧ ks.length ≤ 15 ∧ ks.Nodup) ∧ wVals ws env fun ds env' => Q (.dic ks ds) env'
theorem vals_lift {c' : Cn τ} {σ : L2.St} : ∀ {ks : List Key} {ws : List AE}, ks.length = ws.length → ∀ {Av : AvS} {env : Env} {H : Hp} {Qa : List D → Env → Prop} {Q : List (V × V) → Hp → Prop}, Good c' Av σ H env → wVals ws env Qa →
    (∀ ds env' vs Av' H', Qa ds env' → Good c' Av' σ H' env' → Mono Av H Av' H' → Dens Av' H' vs ds → vs.length = ks.length → Q ((ks.zip vs).map fun kv => (kV kv.1, kv.2)) H') → tPairs ((ks.zip ws).map fun kw => (tC (kV kw.1), liftEA τ kw.2)) σ H Q
  | [], [], _, Av, env, H, Qa, Q, g, q, k => k [] env [] Av H q g Mono.refl .nil rfl
  | key :: ks, w :: ws, hl, Av, env, H, Qa, Q, g, q, k => by
    refine ⟨c', Av, env, _, X0, g, q, fun d env1 v Av1 H1 q1 g1 m1 d1 => ?_, ex0⟩
    refine vals_lift (ks := ks) (ws := ws) (by simpa using hl) g1 q1 fun ds env2 vs Av2 H2 q2 g2 m2 d2 hl2 => ?_
    exact k (d :: ds) env2 (v :: vs) Av2 H2 q2 g2 (m1.trans m2) (.cons (d1.mono m2) d2) (by simp [hl2])
  | [], _ :: _, hl, _, _, _, _, _, _, _, _ => by cases hl
  | _ :: _, [], hl, _, _, _, _, _, _, _, _ => by cases hl
theorem putK_new {kvs : List (Key × V)} {k : Key} {v : V} (h : k ∉ kvs.map (·.1)) : putK kvs k v = kvs ++ [(k, v)] := by
  unfold putK
  rw [if_neg]
  intro z
  obtain ⟨q, h1, h2⟩ := List.any_eq_true.mp z
  exact h (List.mem_map.mpr ⟨q, h1, of_decide_eq_true h2⟩)
theorem mergeK_new : ∀ (more kvs : List (Key × V)), (kvs.map (·.1) ++ more.map (·.1)).Nodup → mergeK kvs more = kvs ++ more
  | [], kvs, _ => by simp [mergeK]
  | (k, v) :: r, kvs, h => by
    have hk : k ∉ kvs.map (·.1) := fun z => by
      rw [List.nodup_append] at h
      exact h.2.2 k z k (by simp) rfl
    have e : mergeK kvs ((k, v) :: r) = mergeK (putK kvs k v) r := rfl
    rw [e, putK_new hk, mergeK_new r (kvs ++ [(k, v)]) (by simpa using h)]
    simp
theorem a_dic {keys : List (Option Expr)} {values : List Expr} {ks : List Key} {ws : List AE} (h : PPs X pos keys values ((ks.zip ws).map fun kw => (tC (kV kw.1), liftEA τ kw.2))) (hall : keys.all (·.isSome) = true) (hl : keys.length = values.length) (h0 : keys ≠ []) (h15 : keys.length ≤ 15) :
    PE X (.Dict keys values pos) (liftE c Wx (wDic ks ws)) := PE.imp (fun σ H Q ⟨Av, env, Qa, Xa, g, ⟨⟨hkl, hk15, hnd⟩, q⟩, k, x⟩ p hp => by
      have f := g.hide (ob := .dK []) hp pla_dK
      have hv : L2.upd H p (.dK []) p = some (.dK []) := upd_same
      refine vals_lift hkl f.rebase q fun ds env' vs Av' H' q' g' m' d' hlv => ?_
      obtain ⟨u1, u2, u3, u4⟩ := f.unbase hv nt_dK g' m'
      have f' : Hid c Av' σ H' env' p := ⟨u1, u3, u2, f.n0, f.h0, _, u4, pla_dK⟩
      have hz1 : (ks.zip vs).map (·.1) = ks := zip_fst hlv.symm
      have hz2 : (ks.zip vs).map (·.2) = vs := zip_snd hlv.symm
      refine ⟨u4, ks.zip vs, rfl, by rw [List.length_zip, hlv, Nat.min_self]; exact hk15, ?_⟩
      rw [mergeK_new _ _ (by rw [List.map_nil, List.nil_append, hz1]; exact hnd), List.nil_append]
      obtain ⟨g2, m2⟩ := f'.show (ob := .dK (ks.zip vs)) nt_dK
      have dd : Den (rem Av' p) (L2.upd H' p (.dK (ks.zip vs))) (.ref p) (.dic ((ks.zip vs).map (·.1)) ds)   := .dic upd_same (fun z => z.2 rfl) (by rw [hz2]; exact d'.mono m2)
      rw [hz1] at dd
      exact k _ env' (.ref p) _ _ q' g2 (((Mono.addNew hp).trans m').trans m2) dd) (pe_disp h hall hl h0 h15)
theorem pps_one {k v : Expr} {ks : List (Option Expr)} {vs : List Expr} {key : Key} {keys : List Key} {w : AE} {ws : List AE} (hk : PE X k (tC (kV key))) (hv : ∀ c' : Cn τ, PE X v (liftE c' W0 w)) (hr : PPs X pos ks vs ((keys.zip ws).map fun kw => (tC (kV kw.1), liftEA τ kw.2))) :
    PPs X pos (some k :: ks) (v :: vs) (((key :: keys).zip (w :: ws)).map fun kw => (tC (kV kw.1), liftEA τ kw.2)) := pps_cons hk (PE.allC hv) hr
theorem pps_end : PPs X pos [] [] ((([] : List Key).zip ([] : List AE)).map fun kw => (tC (kV kw.1), liftEA τ kw.2)) := pps_nil

/-! ### x in a list or tuple of flat values -/
def flatD : D → Option V
  | .non => some .non
  | .bl b => some (.bl b)
  | .int i => some (.int i)
  | .str s => some (.str s)
  | _ => none
def flatsD : List D → Option (List V)
  | [] => some []
  | d :: ds => match flatD d, flatsD ds with
    | some v, some vs => some (v :: vs)
    | _, _ => none
theorem flatD_v {Av : AvS} {H : Hp} {v u : V} {d : D} (h : Den Av H v d) (e : flatD d = some u) : v = u ∧ flatV v = true := by
  cases h <;> cases e <;> exact ⟨rfl, rfl⟩
theorem flatsD_v {Av : AvS} {H : Hp} : ∀ {vs us : List V} {ds : List D}, Dens Av H vs ds → flatsD ds = some us → vs = us ∧ vs.all flatV = true
  | _, _, _, .nil, e => by cases e; exact ⟨rfl, rfl⟩
  | _, _, _, .cons h t, e => by
    unfold flatsD at e
    split at e
    · rename_i v vs e1 e2
      cases e
      obtain ⟨rfl, h1⟩ := flatD_v h e1
      obtain ⟨rfl, h2⟩ := flatsD_v t e2
      exact ⟨rfl, by rw [List.all_cons, h1, h2]; rfl⟩
    · cases e
def inD (neg : Bool) : R2D := fun x y k => ∃ ys u us, (y = .lst ys ∨ y = .tup ys) ∧ flatD x = some u ∧ flatsD ys = some us ∧ k (.bl (if neg then !inV u us else inV u us))
theorem opd_in {K : PySem.W.Frag} {neg : Bool} : OpD (rIn K neg) (inD neg) := by
  intro Av H x y d1 d2 k Q hl h1 h2 ⟨ys, u, us, e1, e2, e3, r⟩ kk
  obtain ⟨rfl, f1⟩ := flatD_v h1 e2
  rcases e1 with rfl | rfl
  · cases h2 with
    | lst h na qs =>
      obtain ⟨rfl, f2⟩ := flatsD_v qs e3
      exact ⟨_, _, rfl, .inl (.inl (.inl h)), f1, f2, kk _ _ H r Grow.refl (.bl _)⟩
  · cases h2 with
    | tup h na qs =>
      obtain ⟨rfl, f2⟩ := flatsD_v qs e3
      exact ⟨_, _, rfl, .inr (.inl h), f1, f2, kk _ _ H r Grow.refl (.bl _)⟩
theorem a_in (ha : PE X a (liftE c Wx wa)) (hb : PE X b (liftE c Wx wb)) (hm : behindInMarks .In b = false := by rfl) : PE X (.Compare a [.In] [b] pos) (liftE c Wx (wOp (inD false) wa wb)) := a_cmp op_in_seq opd_in ha hb hm
theorem t_in (ha : PE X a (liftE c Wx wa)) (hb : PE X b (liftE c Wx wb)) (hm : behindInMarks .In b = false := by rfl) : PT X (.Compare a [.In] [b] pos) (liftT c Wx (wB (wOp (inD false) wa wb))) := t_cmp op_in_seq opd_in ha hb hm
end
end DL
namespace DL
open PySem L2
section
variable {X : Cx} {τ : TBL} {c : Cn τ} {Wx : WX} {e a b : Expr} {es : List Expr} {pos p p' : Pos} {x : Str} {w : AA} {we wa wb : AE}
/-- y = [.. for ..] -/
theorem s_setLc {i : Nat} {y : Str} {py : Pos} {elt tg iter : Expr} {ifs : List Expr} {scope : Scope} {own : List (Str × Nat)} {spos : Pos} {wi : AI} {g : TG} {wg : AG} {t : AT} {w : AE} (hc : X.calm = true) (hN : X.N.Nodup) (hy : X.N[i]? = some y) (hyl : X.env.scope.names.lookup y = some .local)
    (hsw : swapsWith (.ListComp elt [⟨tg, iter, ifs, 0⟩] scope pos) (some (.Name y py)) spos.line X.env = pure true) (hi : PI X tg iter (liftI c Wx wi)) (ok : BlkOk X.N X.env.scope scope own)
    (hg : ∀ (s : Shared) (H : Hp) (C : Addr) (cl : List (Str × Addr)) (fp : List Addr), PG (X.blk s H scope (PySem.compEnvC scope cl C X.env) fp) tg g) (hw : ∀ c' : Cn τ, GOkV c' g wg (own.map (·.2)))
    (ht : ∀ (s : Shared) (H : Hp) (C : Addr) (cl : List (Str × Addr)) (fp : List Addr) (c' : Cn τ), PTs (X.blk s H scope (PySem.compEnvC scope cl C X.env) fp) ifs (liftT c' W0 t))
    (he : ∀ (s : Shared) (H : Hp) (C : Addr) (cl : List (Str × Addr)) (fp : List Addr) (c' : Cn τ), PE (X.blk s H scope (PySem.compEnvC scope cl C X.env) fp) elt (liftE c' W0 w)) (hs : ∀ x, foldedSetIterable iter X.env x = pure x := by intro _; rfl) :
    PS X (.Assign [.Name y py] (.ListComp elt [⟨tg, iter, ifs, 0⟩] scope pos) spos) (liftS c Wx (wSetF i (wLc wi wg t w (own.map (·.2))))) := PS.imp (fun D σ H ⟨Av, env, A, g, q, E⟩ =>
      lc_lift hw σ H _ ⟨Av, env, _, _, g, q, fun ds env' p Av' H' q' f m' => E.nx _ Av' _ H' q' (f.toOwn i) m', E.ex _⟩) (ps_setLc hc hN hy hyl hsw hi ok hg (fun s H C cl fp => PTs.allC (ht s H C cl fp)) (fun s H C cl fp => PE.allC (he s H C cl fp)) hs)
/-- - e -/
def wNeg (wa : AE) (env : Env) (Q : D → Env → Prop) (X : AX) : Prop := wa env (fun d env1 => ∃ i, d = .int i ∧ Q (.int (-i)) env1) X
theorem a_neg (ha : PE X a (liftE c Wx wa)) : PE X (.UnaryOp .USub a pos) (liftE c Wx (wNeg wa)) := PE.imp (fun σ H Q ⟨Av, env, Qa, Xa, g, q, k, x⟩ =>
  ⟨Av, env, _, Xa, g, q, fun d env1 v Av1 H1 q1 g1 m1 d1 => by
    obtain ⟨i, rfl, q1⟩ := q1
    cases d1
    exact ⟨i, rfl, k _ env1 _ Av1 H1 q1 g1 m1 (.int _)⟩, x⟩) (pe_un un_neg ha)
end
end DL
set_option Elab.async false
set_option linter.all false
set_option maxRecDepth 100000
set_option maxHeartbeats 4000000
namespace DL
open PySem L2
/-! ### defs of the program, by their names -/
structure DefE (P : Program) (w : World) (K : PySem.W.Frag) (mg : Str → Option Value) (base : Heap) (τ : TBL) (cal : Bool) (k : Nat) (x : Str) (ps : List Str) (n : Nat) (mi : Option Nat) (con : Con) : Prop where
  ex : ∃ f fd, FnG P w K mg base cal k f fd ps (spOf τ n mi con) ∧ mg x = some (.ref f) ∧ PySem.W.keepIn K (.ref f) = true ∧ Binds K fd ps []
structure DefF (P : Program) (w : World) (K : PySem.W.Frag) (mg : Str → Option Value) (base : Heap) (τ : TBL) (cal : Bool) (k : Nat) (x : Str) (ps : List Str) (n : Nat) (mi : Option Nat) (con : ConF) : Prop where
  ex : ∃ f fd, FnG P w K mg base cal k f fd ps (spOfF τ n mi con) ∧ mg x = some (.ref f) ∧ PySem.W.keepIn K (.ref f) = true ∧ Binds K fd ps []
/-- what the written part says of a def -/
structure DefT (K : PySem.W.Frag) (mg : Str → Option Value) (x : Str) (st : Stmt) (ps : List Str) : Prop where
  ex : ∃ f fd, Fun K x x st f fd ∧ mg x = some (.ref f) ∧ PySem.W.keepIn K (.ref f) = true ∧ Binds K fd ps []
section
variable {cal : Bool} {X : Cx} {τ : TBL} {c : Cn τ} {Wx : WX} {e a b : Expr} {es : List Expr} {pos p : Pos} {k j n : Nat} {ps : List Str} {x : Str} {mi : Option Nat} {w : AA}
theorem a_callD {con : Con} (h : DefE X.prog X.w X.K X.mg X.base τ cal k x ps n mi con) (hr : Room j X.A) (hkj : k ≤ j) (hG : CalmB cal X.A) (hg : Gl X x) (tk : Takes X Wx) (ha : PA X (e :: es) (liftA c Wx w))
    (hdb : (x == ("__debug__" : Str)) = false := by decide) (he : starEach (e :: es) X.env = (false, eval e X.env) :: starEach es X.env := by rfl) (hpl : (backTo pos (starEach es X.env)).any (·.1) = false := by rfl) :
    PE X (.Call (.Name x p) (e :: es) [] pos) (liftE c Wx (wCall n mi con w)) := by
  obtain ⟨f, fd, F, hm, hk, hb⟩ := h.ex
  exact a_call F (hr.mono hkj) hG hg hm hk hb tk ha hdb he hpl
theorem a_callDF {con : ConF} (h : DefF X.prog X.w X.K X.mg X.base τ cal k x ps n mi con) (hr : Room j X.A) (hkj : k ≤ j) (hG : CalmB cal X.A) (hg : Gl X x) (tk : Takes X Wx) (ha : PA X (e :: es) (liftA c Wx w))
    (hdb : (x == ("__debug__" : Str)) = false := by decide) (he : starEach (e :: es) X.env = (false, eval e X.env) :: starEach es X.env := by rfl) (hpl : (backTo pos (starEach es X.env)).any (·.1) = false := by rfl) :
    PE X (.Call (.Name x p) (e :: es) [] pos) (liftF c Wx (wCallF n mi con w)) := by
  obtain ⟨f, fd, F, hm, hk, hb⟩ := h.ex
  exact a_callF F (hr.mono hkj) hG hg hm hk hb tk ha hdb he hpl
end
section
variable {τ : TBL} {cal : Bool} {P : Program} {w : World} {K : PySem.W.Frag} {mg : Str → Option Value} {base : Heap} {x : Str} {st : Stmt} {N ps : List Str} {k n : Nat} {mi : Option Nat}
theorem def_E {con : Con} (T : DefT K mg x st ps) (S : FnScope N ps (defScope st)) (hn : ps.length = n) (hN : n ≤ N.length)
    (body : ∀ (f : Addr) (cdv : Value) (A : Around) (outer : List PySem.Env) (s : Shared) (H : Hp) (E : XK) (c : Cn τ), Room k (A.deeper (PyProof.Rows.envOfC x (defScope st) s.heap.objs.size f cdv)) → CalmB cal A →
      ∃ W, PSs (cxOf (L2.CX P w) P w K mg base N x (defScope st) f cdv A outer s H E) (defBody st) (liftS c (fun cls d _ H' => E cls d H') W) ∧
        ∀ a ds m Qd Xd, ds.length = n → (mi = none → m = []) → con ds m Qd Xd → W (env0 N.length mi a m ds) (bodyEnds mi a m Qd Xd)) : DefE P w K mg base τ cal (k + 1) x ps n mi con := by
  obtain ⟨f, fd, F, hm, hk, hb⟩ := T.ex
  exact ⟨f, fd, fn_A F S hn hN (fun cdv A outer s H E c hr hG _ => body f cdv A outer s H E c hr hG), hm, hk, hb⟩
theorem def_F {con : ConF} (T : DefT K mg x st ps) (S : FnScope N ps (defScope st)) (hn : ps.length = n) (hN : n ≤ N.length)
    (body : ∀ (f : Addr) (cdv : Value) (A : Around) (outer : List PySem.Env) (s : Shared) (H : Hp) (E : XK) (c : Cn τ), Room k (A.deeper (PyProof.Rows.envOfC x (defScope st) s.heap.objs.size f cdv)) → CalmB cal A →
      ∃ W, PSs (cxOf (L2.CX P w) P w K mg base N x (defScope st) f cdv A outer s H E) (defBody st) (liftS c (fun cls d _ H' => E cls d H') W) ∧
        ∀ a ds m Qd Xd, ds.length = n → (mi = none → m = []) → con ds m Qd Xd → W (env0 N.length mi a m ds) (bodyEndsF mi a m Qd Xd)) : DefF P w K mg base τ cal (k + 1) x ps n mi con := by
  obtain ⟨f, fd, F, hm, hk, hb⟩ := T.ex
  exact ⟨f, fd, fn_AF F S hn hN (fun cdv A outer s H E c hr hG _ => body f cdv A outer s H E c hr hG), hm, hk, hb⟩
/-! ### sizes -/
theorem log2_lt {i : Int} {n : Nat} (h0 : -(2 ^ n) < i) (h1 : i < 2 ^ n) (hn : 0 < n) : i.natAbs.log2 < n := by
  by_cases z : i.natAbs = 0
  · rw [z]; exact hn
  · rw [Nat.log2_lt z]
    have : ((i.natAbs : Nat) : Int) < ((2 ^ n : Nat) : Int) := by
      push_cast
      omega
    exact_mod_cast this
theorem mulW {i j : Int} (n m : Nat) (h0 : -(2 ^ n) < i) (h1 : i < 2 ^ n) (g0 : -(2 ^ m) < j) (g1 : j < 2 ^ m) (hn : 0 < n := by decide) (hm : 0 < m := by decide) (h : n + m ≤ 1000000 := by decide) : CMulW i j := by
  have h2 := log2_lt h0 h1 hn
  have h3 := log2_lt g0 g1 hm
  unfold CMulW
  omega
theorem divW {i j : Int} (m : Nat) (g0 : 0 < j) (g1 : j < 2 ^ m) (hm : 0 < m := by decide) (h : m ≤ 9000 := by decide) : CDivW i j := by
  have h3 := log2_lt (i := j) (n := m) (by
    have : (0 : Int) < 2 ^ m := Int.pow_pos (by decide)
    omega) g1 hm
  exact ⟨g0, by omega⟩
end
end DL
namespace DL
open PySem L2
theorem units1 {k : Nat} {A : Around} (r : Room k A) : A.units + 1 < cLine := by have := r.un; omega
/-- a class of the errors, to be made -/
structure MkE (P : Program) (w : World) (K : PySem.W.Frag) (mg : Str → Option Value) (base : Heap) (cal : Bool) (k : Nat) (x : Str) (C : Addr) : Prop where
  ex : ∃ fI fd, ErrC K mg x C fI ∧ FnG P w K mg base cal k fI fd ["self", "value"] (spInitE K) ∧ Binds K fd ["self", "value"] []
section
variable {cal : Bool} {X : Cx} {τ : TBL} {c : Cn τ} {Wx : WX} {e : Expr} {es : List Expr} {pos p : Pos} {k j : Nat} {x : Str} {C : Addr} {w : AA}
theorem a_mkD (h : MkE X.prog X.w X.K X.mg X.base cal k x C) (hr : Room j X.A) (hkj : k + 1 ≤ j) (hG : CalmB cal X.A) (hg : Gl X x) (ha : PA X (e :: es) (liftA c Wx w))
    (hdb : (x == ("__debug__" : Str)) = false := by decide) (he : starEach (e :: es) X.env = (false, eval e X.env) :: starEach es X.env := by rfl) (hpl : (backTo pos (starEach es X.env)).any (·.1) = false := by rfl) :
    PE X (.Call (.Name x p) (e :: es) [] pos) (liftE c Wx (wMkE C w)) := by
  obtain ⟨fI, fd, T, F, hb⟩ := h.ex
  exact a_mkE T F (hr.mono hkj) hG hb hg ha hdb he hpl
end
/-! ### the pot of digits from which a law draws -/
def Pot (n : Int) (m : List D) : Prop := ∃ x y z, m = [.int x, .int y, .int z] ∧ 0 ≤ x ∧ x < 10 ^ 300 ∧ 0 ≤ y ∧ y < 2 ^ 61 ∧ 0 ≤ z ∧ z ≤ n
def cTake : Con := fun ds m Qd _ => ∃ n upto, ds = [.non, .int upto] ∧ Pot n m ∧ n < 2 ^ 40 ∧ 1 ≤ upto ∧ upto < 2 ^ 30 ∧ ∀ r m', 0 ≤ r → r < upto → Pot (n + 1) m' → Qd (.int r) m'
def cOf : Con := fun ds m Qd _ => ∃ n xs, (ds = [.non, .lst xs] ∨ ds = [.non, .tup xs]) ∧ Pot n m ∧ n < 2 ^ 40 ∧ 1 ≤ xs.length ∧ xs.length < 2 ^ 30 ∧ ∀ d m', d ∈ xs → Pot (n + 1) m' → Qd d m'
def cPlaces (K : PySem.W.Frag) : ConF := fun ds _ Qd _ => ∃ ns most, ds = [.scr K ns, .int most] ∧ 1 ≤ most ∧ most ≤ 2 ^ 20 ∧ ∀ j : Nat, 1 ≤ j → (j : Int) ≤ most → Qd (intsFrom 0 j) []
def cPot (K : PySem.W.Frag) : ConF := fun ds _ Qd _ => ∃ ns k, ds = [.scr K ns, .int k] ∧ 0 ≤ k ∧ k < 2 ^ 20 ∧ ∀ m, Pot 0 m → Qd m []
end DL
namespace DL
open PySem L2
section
variable {α : Type} {x y z : α} {l : List α} {n : Nat}
theorem ixN_at {k : Nat} (h : k < n) : ixN n (k : Int) = some k := by
  unfold ixN
  rw [if_pos (by omega), if_pos (by omega)]
  simp
theorem atI0 : atI (x :: l) 0 = some x := by unfold atI; rw [show ixN (x :: l).length 0 = some 0 from ixN_at (k := 0) (by simp)]; rfl
theorem atI1 : atI (x :: y :: l) 1 = some y := by unfold atI; rw [show ixN (x :: y :: l).length 1 = some 1 from ixN_at (k := 1) (by simp)]; rfl
theorem atI2 : atI (x :: y :: z :: l) 2 = some z := by unfold atI; rw [show ixN (x :: y :: z :: l).length 2 = some 2 from ixN_at (k := 2) (by simp)]; rfl
theorem ixN0 : ixN (n + 1) 0 = some 0 := ixN_at (k := 0) (by omega)
theorem ixN1 : ixN (n + 2) 1 = some 1 := ixN_at (k := 1) (by omega)
theorem ixN2 : ixN (n + 3) 2 = some 2 := ixN_at (k := 2) (by omega)
theorem ix30 : ixN 3 0 = some 0 := ixN_at (n := 3) (k := 0) (by omega)
theorem ix31 : ixN 3 1 = some 1 := ixN_at (n := 3) (k := 1) (by omega)
theorem ix32 : ixN 3 2 = some 2 := ixN_at (n := 3) (k := 2) (by omega)
theorem atI_get {l : List α} {i : Int} (h0 : 0 ≤ i) (h1 : i < l.length) : ∃ x, atI l i = some x ∧ x ∈ l ∧ l[i.toNat]? = some x := by
  have hl : i.toNat < l.length := by omega
  refine ⟨l[i.toNat], ?_, List.getElem_mem hl, List.getElem?_eq_getElem hl⟩
  unfold atI
  rw [show ixN l.length i = some i.toNat from by
    have := ixN_at (n := l.length) (k := i.toNat) hl
    rwa [show ((i.toNat : Nat) : Int) = i by omega] at this]
  exact List.getElem?_eq_getElem hl
end
end DL
namespace DL
open PySem L2
theorem mul_bd {a b A B : Int} (h0 : 0 ≤ a) (h1 : a ≤ A) (h2 : 0 ≤ b) (h3 : b ≤ B) : 0 ≤ a * b ∧ a * b ≤ A * B :=
  ⟨Int.mul_nonneg h0 h2, Int.mul_le_mul h1 h3 h2 (by omega)⟩
theorem bits_le {i : Int} : Builtin.Int.intBits i ≤ i.natAbs.log2 + 1 := by
  unfold Builtin.Int.intBits
  split <;> omega
theorem powG {i : Int} (n : Nat) (j : Nat) (h0 : -(2 ^ n) < i) (h1 : i < 2 ^ n) (hn : 0 < n := by decide) (h : n * j ≤ 2 ^ 27 := by decide) : CPowG i (j : Int) := by
  have h2 := log2_lt h0 h1 hn
  have h3 := bits_le (i := i)
  refine ⟨by omega, ?_⟩
  have h4 : Builtin.Int.intBits i ≤ n := by omega
  have h5 : Builtin.Int.intBits i * j ≤ n * j := Nat.mul_le_mul_right j h4
  have h6 : Builtin.Int.intBits i * j ≤ 2 ^ 27 := Nat.le_trans h5 h
  exact_mod_cast h6
end DL
namespace DL
open PySem L2
theorem potL {c1 c2 c3 n kk : Int} (hk0 : 0 ≤ kk) (hk1 : kk < 2 ^ 20) (h1 : 0 ≤ c1) (h2 : c1 < 2 ^ 20) (h3 : 0 ≤ c2) (h4 : c2 < 2 ^ 20) {Q : List D → List D → Prop} (k : ∀ m, Pot 0 m → Q m []) :
    CPowG 10 60 ∧ CPowG (10 ^ Int.toNat 60) 5 ∧ 0 < ((10 : Int) ^ Int.toNat 60) ^ Int.toNat 5 ∧ CPowG 10 18 ∧
      CMulW ((if n < 0 then -n else n) % (10 ^ Int.toNat 60) ^ Int.toNat 5) (if 10 ^ Int.toNat 18 ≤ if n < 0 then -n else n then 1 else 0) ∧
        (0 : Int) < 2305843009213693951 ∧ CMulW (n % 2305843009213693951) c1 ∧ CMulW c2 kk ∧ CMulW (c2 * kk) kk ∧ (0 : Int) < 2305843009213693921 ∧ 3 ≤ sizeLine ∧
          Q [D.int ((if n < 0 then -n else n) % (10 ^ Int.toNat 60) ^ Int.toNat 5 * if 10 ^ Int.toNat 18 ≤ if n < 0 then -n else n then 1 else 0), D.int ((n % 2305843009213693951 * c1 + c2 * kk * kk + c3) % 2305843009213693921), D.int 0] [] := by
  have e1 : ((10 : Int) ^ Int.toNat 60) ^ Int.toNat 5 = 10 ^ 300 := by decide +kernel
  rw [e1]
  generalize hM : (10 : Int) ^ 300 = M
  have M0 : 0 < M := by rw [← hM]; decide +kernel
  have M1 : M < 2 ^ 1000 := by rw [← hM]; decide +kernel
  generalize (if n < 0 then -n else n) = N
  have r0 : 0 ≤ N % M := Int.emod_nonneg _ (by omega)
  have r1 : N % M < M := Int.emod_lt_of_pos _ M0
  generalize hr : N % M = r at r0 r1
  have s0 : 0 ≤ n % 2305843009213693951 := Int.emod_nonneg _ (by decide)
  have s1 : n % 2305843009213693951 < 2305843009213693951 := Int.emod_lt_of_pos _ (by decide)
  obtain ⟨t0, t1⟩ := mul_bd h3 (Int.le_of_lt h4) hk0 (Int.le_of_lt hk1)
  have p0 : (0 : Int) < 2 ^ 1000 := by decide +kernel
  refine ⟨powG 4 60 (by decide) (by decide), powG 200 5 (by decide +kernel) (by decide +kernel), M0, powG 4 18 (by decide) (by decide), ?_, by decide, mulW 61 20 (by omega) (by omega) (by omega) (by omega), mulW 20 20 (by omega) (by omega) (by omega) (by omega), mulW 41 20 (by omega) (by omega) (by omega) (by omega), by decide, by rw [sizeLine_eq]; decide, ?_⟩
  · split
    · exact mulW 1000 2 (by omega) (by omega) (by decide) (by decide)
    · exact mulW 1000 2 (by omega) (by omega) (by decide) (by decide)
  · refine k _ ⟨_, _, _, rfl, ?_, ?_, Int.emod_nonneg _ (by decide), Int.lt_trans (Int.emod_lt_of_pos _ (by decide)) (by decide), by decide, by decide⟩
    · split <;> omega
    · rw [hM]; split <;> omega
end DL
namespace DL
open PySem L2
/-! ### values that can be shown -/
def Nice (k L : Nat) (d : D) : Prop := ∃ p, d.py = some p ∧ p.showable = true ∧ p.depth ≤ k ∧ p.shown.length ≤ L ∧ PyData.strOk p.shown = true
theorem Nice.mono {k L k' L' : Nat} {d : D} (h : Nice k L d) (h1 : k ≤ k') (h2 : L ≤ L') : Nice k' L' d := let ⟨p, a, b, c, e, f⟩ := h; ⟨p, a, b, by omega, by omega, f⟩
theorem strOk_append {a b : Str} (h1 : PyData.strOk a = true) (h2 : PyData.strOk b = true) : PyData.strOk (a ++ b) = true := by
  unfold PyData.strOk at *
  rw [Str.cps_append, Array.all_append, h1, h2]
  rfl
theorem Nice.tup1 {k L : Nat} {d : D} (h : Nice k L d) : Nice (k + 1) (L + 3) (.tup [d]) := by
  obtain ⟨p, a, b, c, e, f⟩ := h
  have es : (PyData.tuple [p]).shown = Str.ofString "(" ++ p.shown ++ Str.ofString ",)" := by
    simp [PyData.shown, PyData.shownAll, tupleText, Str.join]
  refine ⟨.tuple [p], by simp [D.py, pys, a], by simp [PyData.showable, PyData.showableAll, b], by simp [PyData.depth, PyData.depthAll]; omega, ?_, ?_⟩
  · rw [es, Str.length_append, Str.length_append]
    have h1 : (Str.ofString "(").length = 1 := by decide
    have h2 : (Str.ofString ",)").length = 2 := by decide
    omega
  · rw [es]
    exact strOk_append (strOk_append (by decide +kernel) f) (by decide +kernel)
theorem Nice.lst2 {k L : Nat} {d : D} (h : Nice k L d) : Nice (k + 1) (L + 5) (.lst [d, .int 1]) := by
  obtain ⟨p, a, b, c, e, f⟩ := h
  have es : (PyData.list [p, .int 1]).shown = Str.ofString "[" ++ Str.ofString "" ++ p.shown ++ Str.ofString ", " ++ Str.ofString "1" ++ Str.ofString "]" := by
    simp [PyData.shown, PyData.shownAll, listText, textFrom]
    rfl
  refine ⟨.list [p, .int 1], by simp [D.py, pys, a], (by
    have h1 : Nat.log2 1 < 1920 := by decide
    simp [PyData.showable, PyData.showableAll, b, h1]), by simp [PyData.depth, PyData.depthAll]; omega, ?_, ?_⟩
  · rw [es]
    simp only [Str.length_append]
    have h1 : (Str.ofString "[").length = 1 := by decide
    have h2 : (Str.ofString "").length = 0 := by decide
    have h3 : (Str.ofString ", ").length = 2 := by decide
    have h4 : (Str.ofString "1").length = 1 := by decide
    have h5 : (Str.ofString "]").length = 1 := by decide
    omega
  · rw [es]
    exact strOk_append (strOk_append (strOk_append (strOk_append (strOk_append (by decide +kernel) (by decide +kernel)) f) (by decide +kernel)) (by decide +kernel)) (by decide +kernel)
theorem Nice.dicA {k L : Nat} {d : D} (h : Nice k L d) : Nice (k + 1) (L + 7) (.dic [.inr (Str.ofString "a")] [d]) := by
  obtain ⟨p, a, b, c, e, f⟩ := h
  have es : (PyData.dict [(.str (Str.ofString "a"), p)]).shown = Str.ofString "{" ++ (Str.ofString "'a'" ++ Str.ofString ": " ++ p.shown) ++ Str.ofString "}" := by
    have r : reprText (Str.ofString "a") = Str.ofString "'a'" := by decide +kernel
    simp [PyData.shown, PyData.shownKv, dictText, Str.join, r]
  refine ⟨.dict [(.str (Str.ofString "a"), p)], by simp [D.py, pys, a, keyPy], by simp [PyData.showable, PyData.showableKv, b], by simp [PyData.depth, PyData.depthKv]; omega, ?_, ?_⟩
  · rw [es]
    simp only [Str.length_append]
    have h1 : (Str.ofString "{").length = 1 := by decide
    have h2 : (Str.ofString "'a'").length = 3 := by decide
    have h3 : (Str.ofString ": ").length = 2 := by decide
    have h5 : (Str.ofString "}").length = 1 := by decide
    omega
  · rw [es]
    exact strOk_append (strOk_append (by decide +kernel) (strOk_append (strOk_append (by decide +kernel) (by decide +kernel)) f)) (by decide +kernel)
/-- the call that does not come -/
theorem DefE.never {τ : TBL} {cal : Bool} {P : Program} {w : World} {K : PySem.W.Frag} {mg : Str → Option Value} {base : Heap} {x : Str} {st : Stmt} {ps : List Str} {n : Nat} {mi : Option Nat} (T : DefT K mg x st ps) : DefE P w K mg base τ cal 0 x ps n mi (fun _ _ _ _ => False) := by
  obtain ⟨f, fd, F, hm, hk, hb⟩ := T.ex
  refine ⟨f, fd, ⟨fun vs H Q E h => ?_, fun A hr hG below s H e0 gs us vs bd r Q E h => ?_⟩, hm, hk, hb⟩
  · obtain ⟨_, _, _, _, _, _, _, _, _, _, z, _⟩ := h
    exact z.elim
  · obtain ⟨_, _, _, _, _, _, _, _, _, _, z, _⟩ := h
    exact z.elim
/-! ### isinstance, repr, == by what is known -/
theorem isi_err {K : PySem.W.Frag} {C C' : Addr} {d : D} {b : Bool} {k : D → Prop} (T : ExcC K C) (h : PySem.W.kitOne K (.ref C) (.ref C') = some b) (q : k (.bl b)) : isiD K [.err C d, .atm C'] k := ⟨_, _, b, .err d T, .own C', h, q⟩
theorem isi_errT {K : PySem.W.Frag} {C : Addr} {n : String} {d : D} {b : Bool} {k : D → Prop} (T : ExcC K C) (h : PySem.W.kitOne K (.ref C) (.type n) = some b) (q : k (.bl b)) : isiD K [.err C d, .ty n] k := ⟨_, _, b, .err d T, .ty n, h, q⟩
theorem Nice.repr {n L : Nat} {d : D} (h : Nice n L d) (hn : n ≤ 60) (hL : L ≤ 16777216) : ∃ t : Str, PyData.strOk t = true ∧ ∀ k : D → Prop, k (.str t) → reprD [d] k := by
  obtain ⟨p, a, b, c, e, f⟩ := h
  exact ⟨p.shown, f, fun k q => ⟨p, a, ⟨b, by omega, by rw [sizeLine_eq]; omega⟩, q⟩⟩
theorem eqD_same {neg : Bool} {x : D} {p : PyData} {k : D → Prop} (h : x.py = some p) (hs : SeqAt.shaped p = true) (q : k (.bl (!neg))) : eqD neg x x k := by
  refine ⟨p, p, h, h, by rw [hs]; rfl, ?_⟩
  rw [PySem.SeqAt.eqv_refl p (SeqAt.canLay_of_shaped hs)]
  cases neg <;> exact q
theorem eqD_str {neg : Bool} {t : Str} {k : D → Prop} (h : PyData.strOk t = true) (q : k (.bl (!neg))) : eqD neg (.str t) (.str t) k := eqD_same (p := .str t) rfl (by simp [SeqAt.shaped, PyData.canLay0, PyData.depth, h]) q
theorem eqD_int {neg : Bool} {i j : Int} {k : D → Prop} (q : k (.bl (if neg then !(i == j) else (i == j)))) : eqD neg (.int i) (.int j) k := ⟨.int i, .int j, rfl, rfl, rfl, by simpa [PyData.eqv] using q⟩
theorem pys_bls : ∀ bs : List Bool, pys (bs.map D.bl) = some (bs.map PyData.bool)
  | [] => rfl
  | b :: bs => by rw [List.map_cons, pys, D.py, pys_bls bs]; rfl
theorem depth_bls : ∀ bs : List Bool, PyData.depthAll (bs.map PyData.bool) = 0
  | [] => rfl
  | b :: bs => by rw [List.map_cons, PyData.depthAll, PyData.depth, depth_bls bs]; rfl
theorem lay_bls : ∀ bs : List Bool, PyData.canLayAll0 (bs.map PyData.bool) = true
  | [] => rfl
  | b :: bs => by rw [List.map_cons, PyData.canLayAll0, PyData.canLay0, lay_bls bs]; rfl
theorem eqD_bls {neg : Bool} {bs : List Bool} {k : D → Prop} (q : k (.bl (!neg))) : eqD neg (.lst (bs.map D.bl)) (.lst (bs.map D.bl)) k := by
  refine eqD_same (p := .list (bs.map PyData.bool)) (by rw [D.py, pys_bls]; rfl) ?_ q
  unfold SeqAt.shaped
  rw [PyData.canLay0, lay_bls, PyData.depth, depth_bls]
  rfl
theorem flats_bls : ∀ bs : List Bool, flatsD (bs.map D.bl) = some (bs.map V.bl)
  | [] => rfl
  | b :: bs => by rw [List.map_cons, flatsD, flatD, flats_bls bs]; rfl
end DL
namespace DL
open PySem L2
theorem sz {n : Nat} (h : n ≤ 100000 := by decide) : n ≤ sizeLine := by rw [sizeLine_eq]; omega
def niceB (k L : Nat) (d : D) : Bool := match d.py with
  | some p => p.showable && decide (p.depth ≤ k) && decide (p.shown.length ≤ L) && PyData.strOk p.shown
  | none => false
theorem nice_of {k L : Nat} {d : D} (h : niceB k L d = true) : Nice k L d := by
  unfold niceB at h
  split at h
  · rename_i p e
    simp only [Bool.and_eq_true, decide_eq_true_eq] at h
    exact ⟨p, e, h.1.1.1, h.1.1.2, h.1.2, h.2⟩
  · cases h
theorem nice_all {k L : Nat} {ds : List D} (h : ds.all (niceB k L) = true) {d : D} (hd : d ∈ ds) : Nice k L d := nice_of (List.all_eq_true.mp h d hd)
end DL
namespace DL
open PySem L2
theorem Pot.mono {n n' : Int} {m : List D} (h : Pot n m) (hn : n ≤ n') : Pot n' m := let ⟨x, y, z, e, h0, h1, h2, h3, h4, h5⟩ := h; ⟨x, y, z, e, h0, h1, h2, h3, h4, by omega⟩
end DL
namespace DL
open PySem L2
/-- what a loop's turns must keep -/
def ForB (ds : List D) (Inv : Nat → Env → Prop) (g : AG) (wb : AS) (A : AEnds) : Prop := (∀ (i : Nat) d env', ds[i]? = some d → Inv i env' → g d env' fun env2 => wb env2 { A with nx := Inv (i + 1), ct := Inv (i + 1), bk := A.nx }) ∧ ∀ env', Inv ds.length env' → A.nx env'
theorem wFor_eq {wi : AI} {g : AG} {wb : AS} {env : Env} {A : AEnds} : wFor wi g wb env A = wi env (fun ds env1 => ∃ Inv : Nat → Env → Prop, Inv 0 env1 ∧ ForB ds Inv g wb A) A.ex := rfl
def LcB (ds : List D) (Inv : Nat → List D → Env → Prop) (g : AG) (t : AT) (w : AE) (vs : List Nat) (env1 : Env) (Q : List D → Env → Prop) : Prop :=
  (∀ (i : Nat) d acc env', ds[i]? = some d → Inv i acc env' → g d env' fun env2 => t env2 (fun b env3 => if b = true then w env3 (fun y env4 => acc.length < sizeLine ∧ Inv (i + 1) (acc ++ [y]) (wipeE env4 vs)) X0 else Inv (i + 1) acc (wipeE env3 vs)) X0) ∧
  ∀ acc env', Inv ds.length acc env' → Q acc (restE env1 env' vs)
theorem wLc_eq {wi : AI} {g : AG} {t : AT} {w : AE} {vs : List Nat} {env : Env} {Q : List D → Env → Prop} {X : AX} : wLc wi g t w vs env Q X = wi env (fun ds env1 => vs.all (plainAt env1) = true ∧ ∃ Inv : Nat → List D → Env → Prop, Inv 0 [] (wipeE env1 vs) ∧ LcB ds Inv g t w vs env1 Q) X := rfl
end DL
set_option Elab.async false
set_option linter.all false
set_option maxRecDepth 100000
set_option maxHeartbeats 4000000
namespace DL
open PySem L2 PySem.HandSPX
abbrev veT : List Value := [.type "ValueError", .type "Exception", .type "BaseException", .type "object"]
/-- what the written part says of a class of errors -/
structure ErrF (K : PySem.W.Frag) (x : Str) (C fI : Addr) (bm : List Value) : Prop where
  a : PySem.W.nsIn K mainGlobals x = some (some (.ref C))
  l : ∃ nm q N bs sn sub ab col dd k0 k1 k2 k3 k5, K.lookup C = some (excClassObj nm q C N bs bm true sn sub ab col dd k0 k1 k2 k3 k5 "ValueError.__new__")
  sa : PySem.W.findIn K (.ref C) "__setattr__" = some (some (.builtin "object.__setattr__"))
  ex : PySem.W.subIn K (.ref C) (.type "BaseException") = some true
  ty : PySem.W.typeIn K (.ref C) = some (.type "type")
  kc : PySem.W.keepIn K (.ref C) = true
  nv : PySem.W.findIn K (.ref C) "value" = some none
  ic : PySem.W.findIn K (.ref C) "__init__" = some (some (.ref fI))
  hg : PySem.W.findIn K (.ref C) "__getattribute__" = some (some (.builtin "BaseException.__getattribute__"))
  hk : PySem.W.findIn K (.ref C) "__getattr__" = some none
  hd : PySem.W.hasDictIn K C = true
  ha : PySem.W.findIn K (.ref C) "__class__" = some (some (.builtin "object.__class__"))
  hm : PySem.W.mroIn K C (.type "object") = some true
structure ErrS (K : PySem.W.Frag) (fI : Addr) : Prop where
  ti : PySem.W.typeIn K (.ref fI) = some (.type "function")
  hn : PySem.W.specialIn K (.builtin "object.__class__") "__get__" = some (some (.builtin "getset_descriptor.__get__"))
  ht : PySem.W.takesIn K (.builtin "object.__class__") = some true
section
variable {K : PySem.W.Frag} {h : Heap} {mg : Str → Option Value} {x x' : Str} {C C' fI : Addr} {bm bm' : List Value}
theorem ErrF.mgv (F : ErrF K x C fI bm) (X : K.In h) (G : h.Ns mainGlobals mg) : mg x = some (.ref C) := PySem.W.mg_of X G F.a
theorem ErrF.ec (F : ErrF K x C fI bm) (S : ErrS K fI) : ExcC K C := ⟨F.hg, F.hk, F.ex, F.hd, F.ha, S.hn, S.ht, F.hm⟩
theorem ErrF.errC (F : ErrF K x C fI bm) (S : ErrS K fI) (X : K.In h) (G : h.Ns mainGlobals mg) (hb : refsVE bm = true) : ErrC K mg x C fI := by
  obtain ⟨nm, q, N, bs, sn, sub, ab, col, dd, k0, k1, k2, k3, k5, hC⟩ := F.l
  exact ⟨⟨⟨nm, q, N, bs, bm, sn, sub, ab, col, dd, k0, k1, k2, k3, k5, hC, hb⟩, F.sa, F.ex, F.ty, F.kc⟩, F.nv, F.ic, S.ti, F.mgv X G, F.ec S⟩
theorem ErrF.cls (F : ErrF K x C fI bm) : ∃ cd, PySem.W.clsIn K C = some cd ∧ cd.mro = .ref C :: bm := by
  obtain ⟨nm, q, N, bs, sn, sub, ab, col, dd, k0, k1, k2, k3, k5, hC⟩ := F.l
  refine ⟨_, by unfold PySem.W.clsIn; rw [hC] <;> rfl, rfl⟩
theorem ErrF.sub (F : ErrF K x C fI bm) (b : Value) : PySem.W.subIn K (.ref C) b = some ((Value.ref C :: bm).contains b) := by
  obtain ⟨cd, e1, e2⟩ := F.cls
  show (PySem.W.clsIn K C).bind _ = _
  rw [e1]
  show (if cd.mro.isEmpty = true then none else some (cd.mro.contains b)) = _
  rw [e2]
  rfl
theorem ErrF.kit (F : ErrF K x C fI bm) (F' : ErrF K x' C' fI bm') : PySem.W.kitOne K (.ref C) (.ref C') = some ((Value.ref C :: bm).contains (.ref C')) := by
  unfold PySem.W.kitOne
  by_cases e : (Value.ref C == Value.ref C') = true
  · rw [if_pos e]
    have e' : Value.ref C = Value.ref C' := eq_of_beq e
    cases e'
    simp
  · rw [if_neg e]
    obtain ⟨cd, e1, _⟩ := F'.cls
    unfold PySem.W.kitCls
    have h1 : ((PySem.W.clsIn K C').isSome && PySem.W.typeIn K (.ref C') == some (.type "type")) = true := by rw [e1, F'.ty]; simp
    dsimp only
    rw [if_pos h1, F.sub]
theorem ErrF.kitT (F : ErrF K x C fI bm) (hb : bm.contains (.type "ValueError") = true) : PySem.W.kitOne K (.ref C) (.type "ValueError") = some true := by
  unfold PySem.W.kitOne
  rw [if_neg (by simp)]
  unfold PySem.W.kitCls
  dsimp only
  rw [if_pos (by decide +kernel), F.sub]
  rw [List.contains_cons, hb, Bool.or_true]
end
/-! self.value = value -/
abbrev initPs : List Str := ["self", "value"]
section
variable {cal : Bool} {P : Program} {w : World} {K : PySem.W.Frag} {mg : Str → Option Value} {base : Heap}
theorem init_ok {st : Stmt} {qual : Str} {p1 p2 p3 p4 : Pos} {f : Addr} {fd : FuncData} (F : Fun K "__init__" qual st f fd) (S : FnScope ["self", "value"] ["self", "value"] (defScope st)) (hs : Loc (defScope st) "self" ∧ Loc (defScope st) "value")
    (hb : defBody st = [.Assign [.Attribute (.Name "self" p1) "value" p2] (.Name "value" p3) p4]) : FnG P w K mg base cal 1 f fd ["self", "value"] (spInitE K) := by
  refine FnG.body F S (fun vs H Q E h => ?_) (fun cdv A outer s H vs Q E hr hG _ h => ?_)
  · obtain ⟨a, C, v, rfl, _⟩ := h
    rfl
  · obtain ⟨a, C, v, rfl, hO, hn, ha, k⟩ := h
    rw [hb]
    refine ⟨_, pss_one (ps_ost (pv 0 (hv := hs.1.elim .inl fun z => .inr (.inl z))) (pv 1 (hv := hs.2.elim .inl fun z => .inr (.inl z)))), ?_⟩
    exact ⟨v, rfl, _, rfl, a, C, rfl, hO, hn, .inl ⟨ha, fun dx h1 h2 => k dx h1 h2⟩⟩
end
end DL
set_option Elab.async false
set_option linter.all false
set_option maxRecDepth 100000
set_option maxHeartbeats 4000000
namespace DL
open PySem L2
section
variable {X : Cx} {τ : TBL} {c : Cn τ} {Wx : WX} {e a b d : Expr} {es : List Expr} {pos p p' apos cpos : Pos} {x : Str} {w : AA} {we wa wb wc : AE}
/-! ### in, not in: any data that holds no dict -/
def inP (neg : Bool) : R2D := fun x y k => ∃ ys q ps, (y = .lst ys ∨ y = .tup ys) ∧ x.py = some q ∧ pys ys = some ps ∧ SeqAt.shaped q = true ∧ PyData.canLayAll0 ps = true ∧ k (.bl (if neg then !(ps.any fun z => PyData.eqv z q) else ps.any fun z => PyData.eqv z q))
theorem room_in {A : Around} {q : PyData} {ps : List PyData} (hu : A.units + 65 < cLine) (hs : SeqAt.shaped q = true) : A.units + 1 + min (PyData.depthAll ps) q.depth < cLine := by
  have h := SeqAt.depth_of_shaped hs
  have h2 : min (PyData.depthAll ps) q.depth ≤ q.depth := Nat.min_le_right _ _
  omega
theorem opi_in {neg : Bool} (hS : SysB X.base) (hu : X.A.units + 65 < cLine) : OpI X (compareOp (if neg then .NotIn else .In)) (inP neg) := by
  intro pins s σ H Av x y v u d1 d2 k Q I hl rx ry h1 h2 ⟨ys, q, ps, ey, e1, e2, hs, hc, r⟩ kk
  obtain ⟨as, r1, _⟩ := h1.reads I (hS.ne I) e1 rx
  rcases ey with rfl | rfl
  · obtain ⟨bs, r2, _⟩ := h2.reads (p := .list ps) I (hS.ne I) (by rw [D.py, e2]; rfl) ry
    cases neg with
    | true => exact SeqAt.notIn_list_reads r2 r1 hc (SeqAt.canLay_of_shaped hs) (room_in hu hs) ⟨.bl _, H, I, rfl, kk _ _ H r Grow.refl (.bl _)⟩
    | false => exact SeqAt.in_list_reads r2 r1 hc (SeqAt.canLay_of_shaped hs) (room_in hu hs) ⟨.bl _, H, I, rfl, kk _ _ H r Grow.refl (.bl _)⟩
  · obtain ⟨bs, r2, _⟩ := h2.reads (p := .tuple ps) I (hS.ne I) (by rw [D.py, e2]; rfl) ry
    cases neg with
    | true => exact SeqAt.notIn_tuple_reads r2 r1 hc (SeqAt.canLay_of_shaped hs) (room_in hu hs) ⟨.bl _, H, I, rfl, kk _ _ H r Grow.refl (.bl _)⟩
    | false => exact SeqAt.in_tuple_reads r2 r1 hc (SeqAt.canLay_of_shaped hs) (room_in hu hs) ⟨.bl _, H, I, rfl, kk _ _ H r Grow.refl (.bl _)⟩
theorem a_inP (hS : SysB X.base) (hu : X.A.units + 65 < cLine) (ha : PE X a (liftE c Wx wa)) (hb : PE X b (liftE c Wx wb)) (hm : behindInMarks .In b = false := by rfl) : PE X (.Compare a [.In] [b] pos) (liftE c Wx (wOp (inP false) wa wb)) := a_cmp (opr_of (opi_in (neg := false) hS hu)) opd_rD ha hb hm
theorem t_inP (hS : SysB X.base) (hu : X.A.units + 65 < cLine) (ha : PE X a (liftE c Wx wa)) (hb : PE X b (liftE c Wx wb)) (hm : behindInMarks .In b = false := by rfl) : PT X (.Compare a [.In] [b] pos) (liftT c Wx (wB (wOp (inP false) wa wb))) := t_cmp (opr_of (opi_in (neg := false) hS hu)) opd_rD ha hb hm
theorem a_ninP (hS : SysB X.base) (hu : X.A.units + 65 < cLine) (ha : PE X a (liftE c Wx wa)) (hb : PE X b (liftE c Wx wb)) (hm : behindInMarks .NotIn b = false := by rfl) : PE X (.Compare a [.NotIn] [b] pos) (liftE c Wx (wOp (inP true) wa wb)) := a_cmp (opr_of (opi_in (neg := true) hS hu)) opd_rD ha hb hm
theorem t_ninP (hS : SysB X.base) (hu : X.A.units + 65 < cLine) (ha : PE X a (liftE c Wx wa)) (hb : PE X b (liftE c Wx wb)) (hm : behindInMarks .NotIn b = false := by rfl) : PT X (.Compare a [.NotIn] [b] pos) (liftT c Wx (wB (wOp (inP true) wa wb))) := t_cmp (opr_of (opi_in (neg := true) hS hu)) opd_rD ha hb hm
/-! ### is None -/
def isNoneD : D → Bool
  | .non => true
  | _ => false
def isN (neg : Bool) : R2D := fun x y k => y = .non ∧ k (.bl (if neg then !isNoneD x else isNoneD x))
theorem none_iff {Av : AvS} {H : Hp} {v : V} {d : D} (h : Den Av H v d) : decide (v = .non) = isNoneD d := by
  cases h <;> rfl
theorem opd_isN : OpD (fun x y H Q => y = .non ∧ Q (.bl (decide (x = .non))) H) (isN false) := by
  intro Av H x y d1 d2 k Q hl h1 h2 ⟨e, r⟩ kk
  subst e
  cases h2
  exact ⟨rfl, by rw [none_iff h1]; exact kk _ _ H r Grow.refl (.bl _)⟩
theorem a_isN (ha : PE X a (liftE c Wx wa)) (hb : PE X b (liftE c Wx wb)) (hm : behindInMarks .Is b = false := by rfl) : PE X (.Compare a [.Is] [b] pos) (liftE c Wx (wOp (isN false) wa wb)) := a_cmp op_isN opd_isN ha hb hm
theorem t_isN (ha : PE X a (liftE c Wx wa)) (hb : PE X b (liftE c Wx wb)) (hm : behindInMarks .Is b = false := by rfl) : PT X (.Compare a [.Is] [b] pos) (liftT c Wx (wB (wOp (isN false) wa wb))) := t_cmp op_isN opd_isN ha hb hm
/-! ### a < b <= c -/
def wChain (R R' : R2D) (wa wb wc : AE) (env : Env) (Q : D → Env → Prop) (X : AX) : Prop := wa env (fun x env1 => wb env1 (fun y env2 => R x y fun z => ∃ k, z = .bl k ∧ if k = true then wc env2 (fun u env3 => R' y u fun z' => Q z' env3) X else Q (.bl false) env2) X) X
theorem chain_lift {r r' : R2} {R R' : R2D} (hr : OpD r R) (hr' : OpD r' R') : ∀ σ H Q, liftE c Wx (wChain R R' wa wb wc) σ H Q → tChain r r' (liftE c Wx wa) (liftE c Wx wb) (liftE c Wx wc) σ H Q := by
  intro σ H Q ⟨Av, env, Qa, Xa, g, q, k, x⟩
  refine ⟨Av, env, _, Xa, g, q, fun d env' v Av1 H' q1 g1 m1 d1 => ?_, x⟩
  refine ⟨Av1, env', _, Xa, g1, q1, fun d' env'' v' Av2 H'' q2 g2 m2 d2 => ?_, x.mono m1⟩
  refine hr Av2 H'' v v' d d' _ _ g2.live (d1.mono m2) d2 q2 fun z vz Hz qz gr dz => ?_
  obtain ⟨kk, rfl, qz⟩ := qz
  cases dz
  refine ⟨kk, rfl, ?_⟩
  have m12 := (m1.trans m2).trans (Mono.grow gr)
  cases kk with
  | false => exact k _ env'' _ Av2 Hz qz (g2.grow gr) m12 (.bl false)
  | true =>
    refine ⟨Av2, env'', _, Xa, g2.grow gr, qz, fun u env3 vu Av3 H3 q3 g3 m3 du => ?_, x.mono m12⟩
    refine hr' Av3 H3 v' vu d' u _ _ g3.live (d2.mono ((Mono.grow gr).trans m3)) du q3 fun z' vz' Hz' qz' gr' dz' => ?_
    exact k z' env3 vz' Av3 Hz' qz' (g3.grow gr') ((m12.trans m3).trans (Mono.grow gr')) dz'
theorem a_chain {op op' : CmpOp} {r r' : R2} {R R' : R2D} (ho : OpR X (compareOp op) r) (hr : OpD r R) (ho' : OpR X (compareOp op') r') (hr' : OpD r' R') (ha : PE X a (liftE c Wx wa)) (hb : PE X b (liftE c Wx wb)) (hc : PE X d (liftE c Wx wc))
    (hm : lastMarks [op, op'] [b, d] = false := by with_unfolding_all rfl) : PE X (.Compare a [op, op'] [b, d] pos) (liftE c Wx (wChain R R' wa wb wc)) := PE.imp (chain_lift hr hr') (pe_chain ho ho' ha hb hc hm)
theorem t_chain {op op' : CmpOp} {r r' : R2} {R R' : R2D} (ho : OpR X (compareOp op) r) (hr : OpD r R) (ho' : OpR X (compareOp op') r') (hr' : OpD r' R') (ha : PE X a (liftE c Wx wa)) (hb : PE X b (liftE c Wx wb)) (hc : PE X d (liftE c Wx wc))
    (hm : lastMarks [op, op'] [b, d] = false := by with_unfolding_all rfl) : PT X (.Compare a [op, op'] [b, d] pos) (liftT c Wx (wB (wChain R R' wa wb wc))) := PT.imp (lift_wB (chain_lift hr hr')) (pt_chain ho ho' ha hb hc hm)
abbrev opLe : OpD (rI0 fun i j => .bl (decide (i ≤ j))) leD := opd_int0 fun _ _ _ _ => .bl _
abbrev opLt : OpD (rI0 fun i j => .bl (decide (i < j))) ltD := opd_int0 fun _ _ _ _ => .bl _
/-! ### texts -/
def wSm0 (C : Str → Prop) (f : Str → D) (we : AE) (env : Env) (Q : D → Env → Prop) (X : AX) : Prop := we env (fun z env1 => ∃ s, z = .str s ∧ C s ∧ Q (f s) env1) X
theorem a_sm0 {id : String} {name : Str} {C : Str → Prop} {gv : Str → V} {f : Str → D} (hf : ∀ Av H s, Den Av H (gv s) (f s)) (slot : Slot "str" name id) (hty : typeOf (.builtin id) = pure (.type "method_descriptor")) (hm : MtR X id (fun x xs H Q => ∃ s, x = .str s ∧ xs = [] ∧ C s ∧ Q (gv s) H)) (he : PE X e (liftE c Wx we))
    (hbase : attributeBase e name X.env (eval e X.env) = eval e X.env := by rfl) (hline : (apos.endLine == cpos.line) = true := by rfl) : PE X (.Call (.Attribute e name apos) [] [] cpos) (liftE c Wx (wSm0 C f we)) := PE.imp (fun σ H Q ⟨Av, env, Qa, Xa, g, q, k, x⟩ =>
      ⟨Av, env, _, Xa, g, q, fun z env1 v Av1 H1 q1 g1 m1 d1 => by
        obtain ⟨s, rfl, hC, q1⟩ := q1
        cases d1
        exact ⟨rfl, s, rfl, rfl, hC, k _ env1 _ Av1 H1 q1 g1 m1 (hf _ _ s)⟩, x⟩) (pe_bm0 PySem.F.plainAttrs_str slot hty hm he hbase hline)
def wSplit (we wa : AE) (env : Env) (Q : List D → Env → Prop) (X : AX) : Prop := we env (fun z env1 => (∃ s, z = .str s) ∧ wa env1 (fun y env2 => ∃ s t, z = .str s ∧ y = .str t ∧ (t.length == 0) = false ∧ s.length + 2 ≤ sizeLine ∧ Q ((Txt.split s t).map D.str) env2) X) X
theorem dens_strs {Av : AvS} {H : Hp} : ∀ xs : List Str, Dens Av H (xs.map V.str) (xs.map D.str)
  | [] => .nil
  | x :: xs => .cons (.str x) (dens_strs xs)
theorem a_split (he : PE X e (liftE c Wx we)) (ha : PE X a (liftE c Wx wa))
    (hbase : attributeBase e "split" X.env (eval e X.env) = eval e X.env := by rfl)
    (hfew : ((backTo cpos (starEach [a] X.env)).all (fun x => !x.1) && (backToKw cpos (keywordEach [] X.env)).all (fun x => x.1.isSome)
      && decide (([a] : List Expr).length + ([] : List Keyword).length + (if ([] : List Keyword).isEmpty then 0 else 1) < 30)) = true := by rfl)
    (hline : (apos.endLine == cpos.line) = true := by rfl) (hs : starEach [a] X.env = (false, eval a X.env) :: starEach [] X.env := by rfl) (hplain : (backTo cpos (starEach [] X.env)).any (·.1) = false := by rfl) :
    PE X (.Call (.Attribute e "split" apos) [a] [] cpos) (liftF c Wx (wSplit we wa)) := PE.imp (fun σ H Q ⟨Av, env, Qa, Xa, g, q, k, x⟩ =>
      ⟨Av, env, _, Xa, g, q, fun z env1 v Av1 H1 q1 g1 m1 d1 => by
        obtain ⟨⟨s0, rfl⟩, q1⟩ := q1
        cases d1
        refine ⟨rfl, Av1, env1, _, Xa, g1, q1, fun y env2 vy Av2 H2 q2 g2 m2 d2 => ?_, x.mono m1⟩
        obtain ⟨s, t, e1, rfl, h1, h2, q2⟩ := q2
        cases e1
        cases d2
        exact ⟨_, t, rfl, rfl, h1, h2, fun pp hp => k _ env2 pp (add Av2 pp) _ q2 (g2.fresh hp (dens_strs _)) ((m1.trans m2).trans (Mono.addNew hp))⟩, x⟩) (pe_bm PySem.F.plainAttrs_str PySem.F.slot_str_split PySem.F.type_str_split mt_split he (pa_cons ha pa_nil hs) hbase hfew hline hs hplain)
def wJoin (we wa : AE) (env : Env) (Q : D → Env → Prop) (X : AX) : Prop := we env (fun z env1 => (∃ s, z = .str s) ∧ wa env1 (fun y env2 => ∃ s ys, z = .str s ∧ (y = .lst (ys.map D.str) ∨ y = .tup (ys.map D.str)) ∧ (ys.map (·.length)).sum + ys.length * s.length ≤ 16777216 ∧ Q (.str (Txt.join s ys)) env2) X) X
theorem a_join (he : PE X e (liftE c Wx we)) (ha : PE X a (liftE c Wx wa))
    (hbase : attributeBase e "join" X.env (eval e X.env) = eval e X.env := by rfl)
    (hfew : ((backTo cpos (starEach [a] X.env)).all (fun x => !x.1) && (backToKw cpos (keywordEach [] X.env)).all (fun x => x.1.isSome)
      && decide (([a] : List Expr).length + ([] : List Keyword).length + (if ([] : List Keyword).isEmpty then 0 else 1) < 30)) = true := by rfl)
    (hline : (apos.endLine == cpos.line) = true := by rfl) (hs : starEach [a] X.env = (false, eval a X.env) :: starEach [] X.env := by rfl) (hplain : (backTo cpos (starEach [] X.env)).any (·.1) = false := by rfl) :
    PE X (.Call (.Attribute e "join" apos) [a] [] cpos) (liftE c Wx (wJoin we wa)) := PE.imp (fun σ H Q ⟨Av, env, Qa, Xa, g, q, k, x⟩ =>
      ⟨Av, env, _, Xa, g, q, fun z env1 v Av1 H1 q1 g1 m1 d1 => by
        obtain ⟨⟨s0, rfl⟩, q1⟩ := q1
        cases d1
        refine ⟨rfl, Av1, env1, _, Xa, g1, q1, fun y env2 vy Av2 H2 q2 g2 m2 d2 => ?_, x.mono m1⟩
        obtain ⟨s, ys, e1, hy, h1, q2⟩ := q2
        cases e1
        rcases hy with rfl | rfl
        · cases d2 with
          | lst h na qs =>
            have e3 := qs.inj_strs
            subst e3
            exact ⟨_, _, ys, rfl, rfl, .inl (.inl (.inl h)), h1, k _ env2 _ Av2 H2 q2 g2 (m1.trans m2) (.str _)⟩
        · cases d2 with
          | tup h na qs =>
            have e3 := qs.inj_strs
            subst e3
            exact ⟨_, _, ys, rfl, rfl, .inr (.inl h), h1, k _ env2 _ Av2 H2 q2 g2 (m1.trans m2) (.str _)⟩, x⟩) (pe_bm PySem.F.plainAttrs_str PySem.F.slot_str_join PySem.F.type_str_join mt_join he (pa_cons ha pa_nil hs) hbase hfew hline hs hplain)
end
end DL
set_option Elab.async false
set_option linter.all false
set_option maxRecDepth 100000
set_option maxHeartbeats 4000000
namespace DL
open PySem L2
section
variable {X : Cx} {τ : TBL} {c : Cn τ} {Wx : WX} {e a b d : Expr} {es : List Expr} {pos p p' p2 apos cpos : Pos} {x : Str} {w : AA} {we wa wb wc : AE}
/-! ### slices -/
abbrev AO := Env → (Option Int → Env → Prop) → AX → Prop
def liftO {τ : TBL} (c : Cn τ) (Wx : WX) (w : AO) : TO := fun σ H Q => ∃ Av env Qa Xa, Good c Av σ H env ∧ w env Qa Xa ∧ (∀ o env' Av' H', Qa o env' → Good c Av' σ H' env' → Mono Av H Av' H' → Q o H') ∧ ExE c Wx σ Av H Xa
theorem PO.imp {eo : Option Expr} {t t' : TO} (h : ∀ σ H Q, t' σ H Q → t σ H Q) (q : PO X eo t) : PO X eo t' := ⟨fun pins s σ H Q I z => q.run pins s σ H Q I (h σ H Q z)⟩
def wNoP (env : Env) (Q : Option Int → Env → Prop) (X : AX) : Prop := Q none env
def wPart (we : AE) (env : Env) (Q : Option Int → Env → Prop) (X : AX) : Prop := we env (fun z env1 => ∃ i, z = .int i ∧ Q (some i) env1) X
theorem o_none : PO X none (liftO c Wx wNoP) := PO.imp (fun σ H Q ⟨Av, env, Qa, Xa, g, q, k, x⟩ => k none env Av H q g Mono.refl) po_none
theorem o_some (h : PE X e (liftE c Wx we)) : PO X (some e) (liftO c Wx (wPart we)) := PO.imp (fun σ H Q ⟨Av, env, Qa, Xa, g, q, k, x⟩ =>
  ⟨Av, env, _, Xa, g, q, fun z env1 v Av1 H1 q1 g1 m1 d1 => by
    obtain ⟨i, rfl, q1⟩ := q1
    cases d1
    exact ⟨i, rfl, k (some i) env1 Av1 H1 q1 g1 m1⟩, x⟩) (po_some h)
def cutD {α : Type} (xs : List α) (lo hi : Option Int) : List α := (xs.drop (HT.sIx xs.length 0 lo)).take (HT.sIx xs.length xs.length hi - HT.sIx xs.length 0 lo)
theorem Dens.cut {Av : AvS} {H : Hp} {vs : List V} {ds : List D} (h : Dens Av H vs ds) (lo hi : Option Int) : Dens Av H (cutV vs lo hi) (cutD ds lo hi) := by
  unfold cutV cutD
  rw [h.length]
  exact (h.drop _).take _
def wSlF (we : AE) (wl wh : AO) (env : Env) (Q : List D → Env → Prop) (X : AX) : Prop := we env (fun z env1 => wl env1 (fun lo env2 => wh env2 (fun hi env3 => ∃ ds, z = .lst ds ∧ Q (cutD ds lo hi) env3) X) X) X
theorem a_slF {lo hi : Option Expr} {wl wh : AO} (he : PE X e (liftE c Wx we)) (hl : PO X lo (liftO c Wx wl)) (hh : PO X hi (liftO c Wx wh)) : PE X (.Subscript e (.Slice lo hi none p2) pos) (liftF c Wx (wSlF we wl wh)) := PE.imp (fun σ H Q ⟨Av, env, Qa, Xa, g, q, k, x⟩ =>
  ⟨Av, env, _, Xa, g, q, fun z env1 v Av1 H1 q1 g1 m1 d1 => ⟨Av1, env1, _, Xa, g1, q1, fun l env2 Av2 H2 q2 g2 m2 => ⟨Av2, env2, _, Xa, g2, q2, fun u env3 Av3 H3 q3 g3 m3 => by
    obtain ⟨ds, rfl, q3⟩ := q3
    have m12 := m1.trans (m2.trans m3)
    cases d1.mono (m2.trans m3) with
    | lst h na qs => exact ⟨_, _, rfl, .inl (.inl h), fun pp hp => k _ env3 pp (add Av3 pp) _ q3 (g3.fresh hp (qs.cut l u)) (m12.trans (Mono.addNew hp))⟩, x.mono (m1.trans m2)⟩, x.mono m1⟩, x⟩) (pe_slice sl_list he hl hh)
/-! ### while -/
def wWhile (t : AT) (wb : AS) (env : Env) (A : AEnds) : Prop := ∃ W : Nat → Env → Prop, (∃ m, W m env) ∧ ∀ m env', W m env' → t env' (fun b env1 => if b = true then wb env1 { A with nx := fun e => ∃ m', m' < m ∧ W m' e, ct := fun e => ∃ m', m' < m ∧ W m' e, bk := A.nx } else A.nx env1) A.ex
theorem s_while {ce : Expr} {body : List Stmt} {t : AT} {wb : AS} (hp : PassesOwn (model X.prog X.w) X.A X.env X.xe) (hc : PT X ce (liftT c Wx t)) (hb : PSs X body (liftS c Wx wb)) : PS X (.While ce body [] pos) (liftS c Wx (wWhile t wb)) :=
  PS.imp (fun D σ H ⟨Av, env, A, g, ⟨W, ⟨m0, w0⟩, turn⟩, E⟩ => by
    refine ⟨fun m σ' H' => ∃ env' Av', W m env' ∧ Good c Av' σ' H' env' ∧ Mono Av H Av' H', ⟨m0, env, Av, w0, g, Mono.refl⟩, ?_⟩
    rintro m σ' H' ⟨env', Av', wm, g', m'⟩
    refine ⟨Av', env', _, _, g', turn m env' wm, fun bb env1 Av1 H1 q1 g1 m1 => ?_, (E.ex _).mono m'⟩
    have mm := m'.trans m1
    cases bb with
    | false => exact E.nx env1 Av1 σ' H1 q1 g1 mm
    | true =>
      refine ⟨fun σ2 H2 => ∃ m', m' < m ∧ ∃ env' Av', W m' env' ∧ Good c Av' σ2 H2 env' ∧ Mono Av H Av' H2, fun σ2 H2 h => h, Av1, env1, _, g1, q1, ⟨?_, ?_, ?_, ?_, E.ex.mono mm, ?_⟩⟩
      · rintro env2 Av2 σ2 H2 ⟨m2, hm, w2⟩ g2 mo
        exact ⟨m2, hm, env2, Av2, w2, g2, mm.trans mo⟩
      · exact fun dd env2 Av2 σ2 H2 v q2 g2 mo => E.rt dd env2 Av2 σ2 H2 v q2 g2 (mm.trans mo)
      · exact fun env2 Av2 σ2 H2 q2 g2 mo => E.nx env2 Av2 σ2 H2 q2 g2 (mm.trans mo)
      · rintro env2 Av2 σ2 H2 ⟨m2, hm, w2⟩ g2 mo
        exact ⟨m2, hm, env2, Av2, w2, g2, mm.trans mo⟩
      · exact fun ds env2 Av2 σ2 H2 pp q2 f2 mo => E.rf ds env2 Av2 σ2 H2 pp q2 f2 (mm.trans mo)) (ps_while hp hc hb)
/-! ### n += e, for whole numbers -/
def wAug (i : Nat) (f : Int → Int → Int) (we : AE) (env : Env) (A : AEnds) : Prop := ∃ n, env[i]? = some (.val (.int n)) ∧ we env (fun z env1 => ∃ k, z = .int k ∧ A.nx (env1.set i (.val (.int (f n k))))) A.ex
theorem s_aug {i : Nat} {op : Operator} {f : Int → Int → Int} (ho : PIp X op (ipI f)) (hN : X.N.Nodup) (hi : X.N[i]? = some x) (hx : Loc X.env.scope x) (he : PE X e (liftE c Wx we)) (hf : X.fn x = true ∨ X.env.scope.names.lookup x = some .local := by first | exact .inl rfl | exact .inr rfl | assumption) :
    PS X (.AugAssign (.Name x p) op e pos) (liftS c Wx (wAug i f we)) := PS.imp (fun D σ H ⟨Av, env, A, g, ⟨n, e1, q⟩, E⟩ => by
      obtain ⟨v, h1, h2⟩ := g.val e1
      cases h2
      refine ⟨_, h1, Av, env, _, _, g, q, fun z env1 v Av1 H1 q1 g1 m1 d1 => ?_, E.ex _⟩
      obtain ⟨k, rfl, q1⟩ := q1
      cases d1
      exact ⟨n, k, rfl, rfl, E.nx _ Av1 _ H1 q1 (g1.setVal (.int _) i) m1⟩) (ps_aug hN hi hx he ho hf)
/-! ### a, b = e, f (values) -/
def wPar (i j : Nat) (w : AA) (env : Env) (A : AEnds) : Prop := w env (fun as env1 => ∃ x y, as = [.vl x, .vl y] ∧ A.nx ((env1.set i (.val x)).set j (.val y))) A.ex
theorem s_par {i j : Nat} {x y : Str} {px py pt : Pos} {kt k2 pt2} (hc : X.calm = true) (hN : X.N.Nodup) (hi : X.N[i]? = some x) (hj : X.N[j]? = some y) (hij : i ≠ j) (hx : X.env.scope.names.lookup x = some .local) (hy : X.env.scope.names.lookup y = some .local) (ha : PA X [a, b] (liftA c Wx w))
    (hw : swappedStores [.Tuple [.Name x px, .Name y py] kt pt] (.Tuple [a, b] k2 pt2) X.env = pure (some [x, y])) (hs : swapsWithSole [.Tuple [.Name x px, .Name y py] kt pt] (.Tuple [a, b] k2 pt2) pos.line X.env = pure false := by rfl) :
    PS X (.Assign [.Tuple [.Name x px, .Name y py] kt pt] (.Tuple [a, b] k2 pt2) pos) (liftS c Wx (wPar i j w)) := PS.imp (fun D σ H ⟨Av, env, A, g, q, E⟩ =>
      ⟨Av, env, _, _, g, q, fun as env1 vs Av1 H1 q1 g1 m1 d1 => by
        obtain ⟨x, y, rfl, q1⟩ := q1
        cases d1 with
        | cons h1 t1 =>
          cases t1 with
          | cons h2 t2 =>
            cases t2
            exact ⟨_, _, rfl, E.nx _ Av1 _ H1 q1 ((g1.setVal h1 i).setVal h2 j) m1⟩, E.ex _⟩) (ps_par hc hN hi hj hij hx hy ha hw hs)
/-! ### xs.pop(i) of a list that may change -/
def wPopAt (i : Nat) (wa : AE) (env : Env) (Q : D → Env → Prop) (X : AX) : Prop := (∃ s ds, env[i]? = some s ∧ mutOf s = some ds) ∧ wa env (fun z env1 => ∃ s ds n j d, env1[i]? = some s ∧ mutOf s = some ds ∧ z = .int n ∧ -(2 ^ 63) ≤ n ∧ n < 2 ^ 63 ∧ seqIndex? n ds.length = some j ∧ ds[j]? = some d ∧ Q d (env1.set i (setMut s (ds.eraseIdx j)))) X
theorem a_popAt {i : Nat} (hp : PE X (.Name x p) (tVar i)) (ha : PE X e (liftE c Wx wa))
    (hbase : attributeBase (.Name x p) "pop" X.env (eval (.Name x p) X.env) = eval (.Name x p) X.env := by rfl)
    (hfew : ((backTo cpos (starEach [e] X.env)).all (fun x => !x.1) && (backToKw cpos (keywordEach [] X.env)).all (fun x => x.1.isSome)
      && decide (([e] : List Expr).length + ([] : List Keyword).length + (if ([] : List Keyword).isEmpty then 0 else 1) < 30)) = true := by rfl)
    (hline : (apos.endLine == cpos.line) = true := by rfl) (hs : starEach [e] X.env = (false, eval e X.env) :: starEach [] X.env := by rfl) (hplain : (backTo cpos (starEach [] X.env)).any (·.1) = false := by rfl) :
    PE X (.Call (.Attribute (.Name x p) "pop" apos) [e] [] cpos) (liftE c Wx (wPopAt i wa)) := PE.imp (fun σ H Q ⟨Av, env, Qa, Xa, g, ⟨⟨s, ds, e1, e2⟩, q⟩, k, x⟩ => by
      obtain ⟨a, vs, e3, av, e4, _⟩ := g.mutAt e1 e2
      refine ⟨_, e3, .inl ⟨rfl, _, .inl (.inl e4)⟩, Av, env, _, Xa, g, q, fun z env1 v Av1 H1 q1 g1 m1 d1 => ?_, x⟩
      obtain ⟨s', ds', n, j, dd, f1, f2, rfl, b1, b2, f3, f4, q1⟩ := q1
      obtain ⟨a', vs', f5, av', f6, f7, f8⟩ := g1.mutAt f1 f2
      rw [e3] at f5; cases f5
      cases d1
      obtain ⟨v', h1, h2⟩ := f7.get f4
      obtain ⟨g2, m2⟩ := f8 _ _ (f7.eraseIdx j)
      exact ⟨a, vs', n, j, v', rfl, rfl, f6, b1, b2, by rw [f7.length]; exact f3, h1, k _ _ _ Av1 _ q1 g2 (m1.trans m2) (h2.mono m2)⟩) (pe_bm PySem.F.plainAttrs_list PySem.F.slot_list_pop PySem.F.type_list_pop mt_popAt hp (pa_cons ha pa_nil hs) hbase hfew hline hs hplain)
/-! ### raise C(e), C a class of the errors -/
def wRaise (C : Addr) (w : AA) (env : Env) (A : AEnds) : Prop := w env (fun as env1 => ∃ d, as = [.vl d] ∧ A.ex C d env1) A.ex
structure RsE (P : Program) (w : World) (K : PySem.W.Frag) (mg : Str → Option Value) (base : Heap) (k : Nat) (x : Str) (C : Addr) : Prop where
  ex : ∃ fI fd, ErrC K mg x C fI ∧ FnOk P w K mg base (L2.CX P w) k fI fd ["self", "value"] (spInitE K) ∧ Binds K fd ["self", "value"] []
theorem s_raise {k j : Nat} {C : Addr} (h : RsE X.prog X.w X.K X.mg X.base k x C) (hc : X.calm = true) (tk : Takes X Wx) (hr : Room j X.A) (hkj : k + 1 ≤ j) (hg : Gl X x) (ha : PA X (e :: es) (liftA c Wx w))
    (hdb : (x == ("__debug__" : Str)) = false := by decide) (he : starEach (e :: es) X.env = (false, eval e X.env) :: starEach es X.env := by rfl) (hpl : (backTo pos (starEach es X.env)).any (·.1) = false := by rfl) :
    PS X (.Raise (some (.Call (.Name x p) (e :: es) [] pos)) none p2) (liftS c Wx (wRaise C w)) := by
  obtain ⟨fI, fd, T, F, hb⟩ := h.ex
  have key := ps_raise (pos := p2) hc tk (pmk_oex (p := p) (dvs := []) T.o T.iC T.tI F (hr.mono hkj) hb .nil (fun _ _ _ _ _ _ _ z => by obtain ⟨_, _, _, _, _, _, _, _, _, _, _, _, z⟩ := z; exact z.elim) hg T.mg ha hdb he hpl)
  refine PS.imp (fun D σ H q0 => ?_) key
  · obtain ⟨Av, env, A, g, q, E⟩ := q0
    refine ⟨Av, env, _, _, g, q, fun as env1 vs Av1 H1 q1 g1 m1 d1 => ?_, E.ex _⟩
    obtain ⟨dv, rfl, q1⟩ := q1
    cases d1 with
    | @cons v0 _ _ _ h1 t1 =>
      cases t1
      refine ⟨by show 1 ≤ 1000; decide, fun a ha => ⟨a, C, v0, rfl, T.o, T.nv, upd_same, fun dx hd hne => ⟨rfl, dx, [("value", v0)], upd_same, by rw [upd_ne hne, upd_same], by rw [upd_ne hne] at hd; exact hd, ?_⟩⟩⟩
      rw [upd_ne hne] at hd
      have eH : L2.upd (L2.del (L2.upd (L2.upd (L2.upd H1 a (exo a C none)) dx (exd dx [("value", v0)])) a (exo a C (some dx))) a) dx (.xd [("value", v0)]) = L2.upd H1 dx (.xd [("value", v0)]) := by
        funext y
        by_cases h1 : y = dx
        · rw [h1, upd_same, upd_same]
        · rw [upd_ne h1, upd_ne h1]
          by_cases h2 : y = a
          · rw [h2, del_same, ha]
          · rw [del_ne h2, upd_ne h2, upd_ne h1, upd_ne h2]
      rw [eH]
      exact E.ex σ C dv env1 Av1 _ dx v0 q1 (g1.new hd) (m1.trans (Mono.new hd)) upd_same (g1.notAv hd) (Den.mono (Mono.new hd) h1)
end
end DL
set_option Elab.async false
set_option linter.all false
set_option maxRecDepth 100000
set_option maxHeartbeats 4000000
namespace DL
open PySem L2
section
variable {τ : TBL} {c : Cn τ} {Av Av' : AvS} {σ : L2.St} {H H' : Hp} {env : Env} {i : Nat} {x x' : D} {q : Option Addr}
theorem Box.some {a : Addr} (h : Box Av H a x) : ∃ o, H a = some o ∧ Pla o := by
  cases x with
  | dic ks ds => obtain ⟨kvs, e, _⟩ := h; exact ⟨_, e, pla_dK⟩
  | ins C ks ds => obtain ⟨dx, fs, e, _⟩ := h; exact ⟨_, e, pla_ins⟩
  | _ => exact h.elim
theorem Good.boxTo {a : Addr} (g : Good c Av σ H env) (e : env[i]? = some (.box q x)) (e2 : σ[i]? = some (some (.ref a))) (h2 : Box Av H' a x') (fr : ∀ b o, b ≠ a → H b = some o → NT o → H' b = some o) (tb : LamX.Tabs τ H') :
    Good c Av σ H' (env.set i (.box q x')) ∧ Mono Av H Av H' := by
  obtain ⟨o, e2', a', z, q1, q2, q4, q5⟩ := g.slot e
  rw [e2] at e2'; cases e2'
  cases z
  have q0 : ownA (some (.ref a)) (.box q x) = some a := rfl
  obtain ⟨oo, h1, pl1⟩ := h2.some
  refine ⟨?_, Mono.but q1 fr⟩
  have hi : i < env.length := (List.getElem?_eq_some_iff.mp e).1
  constructor
  · rw [List.length_set]; exact g.len
  · intro j s' o' e1 e3
    rw [List.getElem?_set] at e1
    by_cases h : i = j
    · subst h
      rw [if_pos rfl, if_pos hi] at e1
      cases e1
      rw [e2] at e3; cases e3
      exact ⟨a, rfl, q1, h2, q4, q5⟩
    · rw [if_neg h] at e1
      exact (g.ok j s' o' e1 e3).other q1 (g.sep i j _ s' _ o' a h e e1 e2 e3 q0) fr
  · intro j k' s' t o' p b hjk e1 e3 e4 e5 h1
    rw [List.getElem?_set] at e1 e3
    by_cases h : i = j
    · subst h
      rw [if_pos rfl, if_pos hi] at e1
      rw [if_neg hjk] at e3
      cases e1
      rw [e2] at e4; cases e4
      cases h1
      exact g.sep i k' _ t _ p a hjk e e3 e2 e5 q0
    · rw [if_neg h] at e1
      by_cases h' : i = k'
      · subst h'
        rw [if_pos rfl, if_pos hi] at e3
        cases e3
        rw [e2] at e5; cases e5
        intro z; cases z
        exact g.sep j i s' _ o' _ a hjk e1 e e4 e2 h1 q0
      · rw [if_neg h'] at e3
        exact g.sep j k' s' t o' p b hjk e1 e3 e4 e5 h1
  · exact g.lo
  · intro b hb
    by_cases h : b = a
    · exact ⟨_, by rw [h]; exact h1, pl1.nt⟩
    · obtain ⟨u, hu, nt⟩ := g.live b hb
      exact ⟨u, fr b u h hu nt, nt⟩
  · intro b u np h0 nt
    have hb : b ≠ a := fun z => by
      rcases q4 with q4 | q4
      · exact np (z ▸ q4)
      · exact q4 ⟨u, z ▸ h0, nt⟩
    exact fr b u hb (g.fr b u np h0 nt) nt
  · intro b hb
    by_cases h : b = a
    · exact ⟨_, by rw [h]; exact h1, pl1.nt⟩
    · obtain ⟨u, hu, nt⟩ := g.pl b hb
      exact ⟨u, fr b u h hu nt, nt⟩
  · exact tb
theorem Good.boxAt (g : Good c Av σ H env) (e : env[i]? = some (.box q x)) : ∃ a, σ[i]? = some (some (.ref a)) ∧ Av a ∧ Box Av H a x := by
  obtain ⟨o, e2, a, rfl, q1, q2, _⟩ := g.slot e
  exact ⟨a, e2, q1, q2⟩
theorem Box.den {a : Addr} (h : Box Av H a x) (m : Mono Av H Av' H) (na : ¬ Av' a) : Den Av' H (.ref a) x := by
  cases x with
  | dic ks ds => obtain ⟨kvs, e, rfl, qs⟩ := h; exact .dic e na (qs.mono m)
  | ins C ks ds => obtain ⟨dx, fs, e, rfl, qs⟩ := h; exact .ins e na (qs.mono m)
  | _ => exact h.elim
/-- a box of the frame's own is from now on a value -/
theorem Good.freezeBox (g : Good c Av σ H env) (e : env[i]? = some (.box none x)) : ∃ Av', Good c Av' σ H (env.set i (.val x)) ∧ Mono Av H Av' H := by
  obtain ⟨o, e2, a, rfl, q1, q2, q4, q5⟩ := g.slot e
  have q5 : ¬ c.Av0 a := q5.elim (fun z => nomatch z) fun z => z.2
  have m : Mono Av H (rem Av a) H := Mono.shrink fun b x => x.1
  have hi : i < env.length := (List.getElem?_eq_some_iff.mp e).1
  refine ⟨rem Av a, ?_, m⟩
  constructor
  · rw [List.length_set]; exact g.len
  · intro j s o e1 e3
    rw [List.getElem?_set] at e1
    by_cases h : i = j
    · subst h
      rw [if_pos rfl, if_pos hi] at e1
      cases e1
      rw [e2] at e3; cases e3
      exact ⟨_, rfl, q2.den m fun z => z.2 rfl⟩
    · rw [if_neg h] at e1
      exact (g.ok j s o e1 e3).shrink (g.sep i j _ s _ o a h e e1 e2 e3 rfl)
  · intro j k s t o p b hjk e1 e3 e4 e5 h1
    rw [List.getElem?_set] at e1 e3
    by_cases h : i = j
    · subst h
      rw [if_pos rfl, if_pos hi] at e1
      cases e1
      rw [e2] at e4; cases e4
      cases h1
    · rw [if_neg h] at e1
      by_cases h' : i = k
      · subst h'
        rw [if_pos rfl, if_pos hi] at e3
        cases e3
        rw [e2] at e5; cases e5
        exact fun z => nomatch z
      · rw [if_neg h'] at e3
        exact g.sep j k s t o p b hjk e1 e3 e4 e5 h1
  · exact fun b hb => ⟨g.lo b hb, fun z => q5 (z ▸ hb)⟩
  · exact fun b hb => g.live b hb.1
  · exact g.fr
  · exact g.pl
  · exact g.tab
/-- a new object goes into a box -/
theorem Good.newBox {p : Addr} {ob : HO} (g : Good c Av σ H env) (hp : H p = none) (hob : Pla ob) (hb : ∀ Av', Mono Av H Av' (L2.upd H p ob) → Box Av' (L2.upd H p ob) p x) (i : Nat) : ∃ Av', Good c Av' (σ.set i (some (.ref p))) (L2.upd H p ob) (env.set i (.box none x)) ∧ Mono Av H Av' (L2.upd H p ob) := by
  have f := g.hide (ob := ob) hp hob
  have m : Mono Av H (add Av p) (L2.upd H p ob) := Mono.addNew hp
  refine ⟨add Av p, ?_, m⟩
  have g' := f.g
  constructor
  · rw [List.length_set, List.length_set]; exact g'.len
  · intro j s o e1 e2
    rw [List.getElem?_set] at e1 e2
    by_cases h : i = j
    · subst h
      rw [if_pos rfl] at e1 e2
      split at e1
      · split at e2
        · cases e1; cases e2
          exact ⟨p, rfl, f.inn, hb _ m, .inr f.h0, .inr ⟨rfl, f.n0⟩⟩
        · cases e2
      · cases e1
    · rw [if_neg h] at e1 e2
      exact g'.ok j s o e1 e2
  · intro j k s t o p' a hjk e1 e2 e3 e4 h1
    rw [List.getElem?_set] at e1 e2 e3 e4
    by_cases h : i = j
    · subst h
      rw [if_pos rfl] at e1 e3
      rw [if_neg hjk] at e2 e4
      split at e1
      · split at e3
        · cases e1; cases e3; cases h1
          exact f.no k t p' e2 e4
        · cases e3
      · cases e1
    · rw [if_neg h] at e1 e3
      by_cases h' : i = k
      · subst h'
        rw [if_pos rfl] at e2 e4
        split at e2
        · split at e4
          · cases e2; cases e4
            intro z; cases z
            exact f.no j s o e1 e3 h1
          · cases e4
        · cases e2
      · rw [if_neg h'] at e2 e4
        exact g'.sep j k s t o p' a hjk e1 e2 e3 e4 h1
  · exact g'.lo
  · exact g'.live
  · exact g'.fr
  · exact g'.pl
  · exact g'.tab
end
/-! ### dicts: store -/
def putKs (ks : List Key) (k : Key) : List Key := if ks.any (fun z => decide (z = k)) = true then ks else ks ++ [k]
def replD (k : Key) (d : D) : List Key → List D → List D
  | k' :: ks, x :: ds => (if k' = k then d else x) :: replD k d ks ds
  | _, _ => []
def putDs (ks : List Key) (ds : List D) (k : Key) (d : D) : List D := if ks.any (fun z => decide (z = k)) = true then replD k d ks ds else ds ++ [d]
theorem put_fst {kvs : List (Key × V)} {k : Key} {v : V} : (putK kvs k v).map (·.1) = putKs (kvs.map (·.1)) k := by
  unfold putK putKs
  rw [List.any_map]
  have e : (fun z => decide (z = k)) ∘ (fun x : Key × V => x.1) = fun kv : Key × V => decide (kv.1 = k) := rfl
  rw [e]
  split
  · rw [List.map_map]
    exact List.map_congr_left fun a _ => by
      show (if a.1 = k then (a.1, v) else a).1 = a.1
      split <;> rfl
  · rw [List.map_append]; rfl
theorem put_snd {Av : AvS} {H : Hp} {k : Key} {v : V} {d : D} (hd : Den Av H v d) {kvs : List (Key × V)} {ds : List D} (h : Dens Av H (kvs.map (·.2)) ds) : Dens Av H ((putK kvs k v).map (·.2)) (putDs (kvs.map (·.1)) ds k d) := by
  unfold putK putDs
  rw [List.any_map]
  have e : (fun z => decide (z = k)) ∘ (fun x : Key × V => x.1) = fun kv : Key × V => decide (kv.1 = k) := rfl
  rw [e]
  split
  · have key : ∀ {kvs : List (Key × V)} {ds : List D}, Dens Av H (kvs.map (·.2)) ds → Dens Av H ((kvs.map fun kv => if kv.1 = k then (kv.1, v) else kv).map (·.2)) (replD k d (kvs.map (·.1)) ds) := by
      intro kvs
      induction kvs with
      | nil => intro ds h; cases h; exact .nil
      | cons a r ih =>
        intro ds h
        cases h with
        | cons h t =>
          refine .cons ?_ (ih t)
          show Den Av H (if a.1 = k then (a.1, v) else a).2 (if a.1 = k then d else _)
          split
          · exact hd
          · exact h
    exact key h
  · rw [List.map_append]
    exact h.append (.cons hd .nil)
section
variable {X : Cx} {τ : TBL} {c : Cn τ} {Wx : WX} {e a b d : Expr} {es : List Expr} {pos p p' p2 apos cpos : Pos} {x : Str} {w : AA} {we wa wb wc : AE} {i : Nat}
/-- a box as a value -/
def wVarB (i : Nat) (env : Env) (Q : D → Env → Prop) (X : AX) : Prop := ∃ x, env[i]? = some (.box none x) ∧ Q x (env.set i (.val x))
theorem a_varB {pos : Pos} (p : PE X (.Name x pos) (tVar i)) : PE X (.Name x pos) (liftE c Wx (wVarB i)) := PE.imp (fun σ H Q ⟨Av, env, Qa, Xa, g, ⟨z, e, q⟩, k, _⟩ => by
  obtain ⟨Av', g', m⟩ := g.freezeBox e
  obtain ⟨v, h1, h2⟩ := g'.val (i := i) (d := z) (by
    have hi : i < env.length := (List.getElem?_eq_some_iff.mp e).1
    rw [List.getElem?_set, if_pos rfl, if_pos hi])
  exact ⟨v, h1, k _ _ v Av' H q g' m h2⟩) p
/-- x = {} -/
def wSetD (i : Nat) (env : Env) (A : AEnds) : Prop := A.nx (env.set i (.box none (.dic [] [])))
theorem s_setD {pos' : Pos} (hN : X.N.Nodup) (hi : X.N[i]? = some x) (hx : Loc X.env.scope x) (hs : swapsWith (.Dict [] [] p) (some (.Name x pos')) pos.line X.env = pure false := by rfl) (hf : X.fn x = true ∨ X.env.scope.names.lookup x = some .local := by first | exact .inl rfl | exact .inr rfl | assumption) :
    PS X (.Assign [.Name x pos'] (.Dict [] [] p) pos) (liftS c Wx (wSetD i)) := PS.imp (fun D σ H ⟨Av, env, A, g, q, E⟩ => fun pp hp => by
      obtain ⟨Av', g', m⟩ := g.newBox (x := .dic [] []) (ob := .dK []) hp pla_dK (fun _ _ => ⟨[], upd_same, rfl, .nil⟩) i
      exact E.nx _ Av' _ _ q g' m) (ps_set hN hi hx pe_dnewK hs hf)
/-- rights[k] = e -/
def wSetK (i : Nat) (wv wk : AE) (env : Env) (A : AEnds) : Prop := wv env (fun v env1 => (∃ q ks ds, env1[i]? = some (.box q (.dic ks ds))) ∧ wk env1 (fun y env2 => ∃ q ks ds k, env2[i]? = some (.box q (.dic ks ds)) ∧ keyD y = some k ∧ ks.length < sizeLine ∧ A.nx (env2.set i (.box q (.dic (putKs ks k) (putDs ks ds k v))))) A.ex) A.ex
theorem s_setK {px ps : Pos} {wv wk : AE} (hu : X.A.units + 1 < cLine) (hp : PE X (.Name x px) (tVar i)) (hk : PE X b (liftE c Wx wk)) (hv : PE X e (liftE c Wx wv))
    (pr : ∀ tv ti, PE X e tv → PE X b ti → PS X (.Assign [.Subscript (.Name x px) b ps] e pos) (tAsg tv (gSub (tVar i) ti rSetD))) :
    PS X (.Assign [.Subscript (.Name x px) b ps] e pos) (liftS c Wx (wSetK i wv wk)) := PS.imp (fun D σ H ⟨Av, env, A, g, q, E⟩ => by
  refine ⟨Av, env, _, _, g, q, fun v env1 vv Av1 H1 q1 g1 m1 d1 => ?_, E.ex _⟩
  obtain ⟨⟨qq, ks, ds, e1⟩, q1⟩ := q1
  obtain ⟨a, e3, _, _⟩ := g1.boxAt e1
  refine ⟨_, e3, Av1, env1, _, _, g1, q1, fun y env2 vy Av2 H2 q2 g2 m2 d2 => ?_, (E.ex _).mono m1⟩
  obtain ⟨qq', ks', ds', k, f1, f2, f3, q2⟩ := q2
  obtain ⟨a', f4, av, kvs, f5, f6, f7⟩ := g2.boxAt f1
  rw [e3] at f4; cases f4
  have dv := d1.mono m2
  have mu : Mono Av2 H2 Av2 (L2.upd H2 a (.dK (putK kvs k vv))) := Mono.upd av
  obtain ⟨g3, m3⟩ := g2.boxTo (H' := L2.upd H2 a (.dK (putK kvs k vv))) (x' := .dic (putKs ks' k) (putDs ks' ds' k v)) f1 e3 ⟨_, upd_same, by rw [put_fst, f6], by
    have := put_snd (k := k) dv f7
    rw [f6] at this
    exact this.mono mu⟩ (fun b o hb e _ => by rw [upd_ne hb]; exact e) (tabs_but g2.tab f5 pla_dK fun b o hb e => by rw [upd_ne hb]; exact e)
  refine ⟨a, _, rfl, .inl ⟨kvs, k, f5, keyD_kV d2 f2, by rw [← f6, List.length_map] at f3; exact f3, rfl⟩, E.nx _ Av2 σ _ q2 g3 ((m1.trans m2).trans m3)⟩) (pr _ _ hv hk)
/-- len(rights) -/
def wLenB (i : Nat) (env : Env) (Q : D → Env → Prop) (X : AX) : Prop := ∃ q ks ds, env[i]? = some (.box q (.dic ks ds)) ∧ Q (.int ks.length) env
theorem a_lenB (hg : Gl X "len") (hm : X.mg "len" = none) (hp : PE X (.Name x p') (tVar i)) (he : starEach [.Name x p'] X.env = (false, eval (.Name x p') X.env) :: starEach [] X.env := by rfl) (hpl : (backTo pos (starEach [] X.env)).any (·.1) = false := by rfl) :
    PE X (.Call (.Name "len" p) [.Name x p'] [] pos) (liftE c Wx (wLenB i)) := PE.imp (fun σ H Q ⟨Av, env, Qa, Xa, g, ⟨qq, ks, ds, e1, q⟩, k, x⟩ => by
      obtain ⟨a, e3, _, kvs, e4, e5, e6⟩ := g.boxAt e1
      exact ⟨_, e3, a, kvs, rfl, e4, by rw [← List.length_map (f := (·.1)), e5]; exact k _ env _ Av H q g Mono.refl (.int _)⟩) (pe_callB call_lenD hg hm PySem.boot_len (pa_cons hp pa_nil he) (by decide) (by decide) he hpl)
/-- k not in rights -/
def wNinB (i : Nat) (wk : AE) (env : Env) (Q : D → Env → Prop) (X : AX) : Prop := wk env (fun y env1 => ∃ q ks ds k, env1[i]? = some (.box q (.dic ks ds)) ∧ keyD y = some k ∧ Q (.bl (!(ks.any fun z => decide (z = k)))) env1) X
theorem valV_any {kvs : List (Key × V)} {k : Key} : (valV kvs k).isSome = (kvs.map (·.1)).any fun z => decide (z = k) := by
  induction kvs with
  | nil => rfl
  | cons a r ih =>
    by_cases h : a.1 = k
    · obtain ⟨a1, a2⟩ := a
      subst h
      simp [valV_pos]
    · obtain ⟨a1, a2⟩ := a
      rw [valV_neg h, ih]
      have h' : ¬ a1 = k := h
      simp [h']
theorem a_ninB (hu : X.A.units + 1 < cLine) (hp : PE X (.Name x p) (tVar i)) (hk : PE X a (liftE c Wx wa)) (hm : behindInMarks .NotIn (.Name x p) = false := by rfl) : PE X (.Compare a [.NotIn] [.Name x p] pos) (liftE c Wx (wNinB i wa)) := PE.imp (fun σ H Q ⟨Av, env, Qa, Xa, g, q, k, x⟩ =>
  ⟨Av, env, _, Xa, g, q, fun y env1 v Av1 H1 q1 g1 m1 d1 => by
    obtain ⟨qq, ks, ds, key, e1, e2, q1⟩ := q1
    obtain ⟨a, e3, _, kvs, e4, e5, e6⟩ := g1.boxAt e1
    refine ⟨_, e3, a, valV kvs key, rfl, .inl ⟨kvs, key, .inl e4, keyD_kV d1 e2, rfl⟩, ?_⟩
    rw [valV_any, e5]
    exact k _ env1 _ Av1 H1 q1 g1 m1 (.bl _), x⟩) (pe_cmp (pc_dnotin hu hk hp) hm)
/-! ### truth -/
def truD : D → (Bool → Prop) → Prop
  | .non, k => k false
  | .bl b, k => k b
  | .int i, k => k (i != 0)
  | .str s, k => s.length ≤ sizeLine ∧ k ((s.length : Int) != 0)
  | .lst ds, k => k (!ds.isEmpty)
  | .tup ds, k => k (!ds.isEmpty)
  | _, _ => False
theorem dens_emp {Av : AvS} {H : Hp} {vs : List V} {ds : List D} (h : Dens Av H vs ds) : vs.isEmpty = ds.isEmpty := by cases h <;> rfl
def wTru (we : AE) (env : Env) (Q : Bool → Env → Prop) (X : AX) : Prop := we env (fun d env1 => truD d fun b => Q b env1) X
theorem t_tru (he : PE X e (liftE c Wx we)) (hi : ∀ whole, isTrue e X.env whole = (do let v ← whole; standAt e.pos; holding [v] (truthy v)) := by intro _; rfl) : PT X e (liftT c Wx (wTru we)) := PT.imp (fun σ H Q ⟨Av, env, Qa, Xa, g, q, k, x⟩ =>
  ⟨Av, env, _, Xa, g, q, fun d env1 v Av1 H1 q1 g1 m1 d1 => by
    cases d1 with
    | non => exact ⟨false, rfl, k _ env1 Av1 H1 q1 g1 m1⟩
    | bl b => exact ⟨b, rfl, k _ env1 Av1 H1 q1 g1 m1⟩
    | int i => exact ⟨_, rfl, k _ env1 Av1 H1 q1 g1 m1⟩
    | str s => exact ⟨_, ⟨q1.1, rfl⟩, k _ env1 Av1 H1 q1.2 g1 m1⟩
    | lst h na qs => exact ⟨_, .inl ⟨_, .inl (.inl h), rfl⟩, by rw [dens_emp qs]; exact k _ env1 Av1 H1 q1 g1 m1⟩
    | tup h na qs => exact ⟨_, .inr (.inl ⟨_, .inl h, rfl⟩), by rw [dens_emp qs]; exact k _ env1 Av1 H1 q1 g1 m1⟩
    | _ => exact q1.elim, x⟩) (pt_truth he hi)
def wTruB (i : Nat) (env : Env) (Q : Bool → Env → Prop) (X : AX) : Prop := ∃ q ks ds, env[i]? = some (.box q (.dic ks ds)) ∧ Q (!ks.isEmpty) env
theorem t_truB (hp : PE X (.Name x p) (tVar i)) (hi : ∀ whole, isTrue (.Name x p) X.env whole = (do let v ← whole; standAt (Expr.Name x p).pos; holding [v] (truthy v)) := by intro _; rfl) : PT X (.Name x p) (liftT c Wx (wTruB i)) := PT.imp (fun σ H Q ⟨Av, env, Qa, Xa, g, ⟨qq, ks, ds, e1, q⟩, k, x⟩ => by
  obtain ⟨a, e3, _, kvs, e4, e5, e6⟩ := g.boxAt e1
  have ee : kvs.isEmpty = ks.isEmpty := by rw [← e5]; cases kvs <;> rfl
  exact ⟨_, e3, _, .inr (.inr ⟨kvs, e4, rfl⟩), by rw [ee]; exact k _ env Av H q g Mono.refl⟩) (pt_truth hp hi)
end
end DL
set_option Elab.async false
set_option linter.all false
set_option maxRecDepth 100000
set_option maxHeartbeats 4000000
namespace DL
open PySem L2
/-! ### instances: a field read -/
def aget : List Str → List D → Str → Option D
  | k :: ks, d :: ds, f => if f == k then some d else aget ks ds f
  | _, _, _ => none
theorem aget_val {Av : AvS} {H : Hp} {f : Str} : ∀ {fs : List (Str × V)} {ds : List D}, Dens Av H (fs.map (·.2)) ds → (∀ d, aget (fs.map (·.1)) ds f = some d → ∃ v, fs.lookup f = some v ∧ Den Av H v d) ∧ (aget (fs.map (·.1)) ds f = none → fs.lookup f = none)
  | [], _, h => by
    cases h
    exact ⟨fun d e => by simp [aget] at e, fun _ => rfl⟩
  | (k, v) :: fs, _, h => by
    cases h with
    | @cons _ _ d ds h t =>
      obtain ⟨h1, h2⟩ := aget_val (f := f) t
      cases e : f == k with
      | true => exact ⟨fun d' e' => by
          simp [aget, e] at e'
          subst e'
          exact ⟨v, by simp [List.lookup, e], h⟩, fun e' => by simp [aget, e] at e'⟩
      | false => exact ⟨fun d' e' => by
          simp [aget, e] at e'
          obtain ⟨v', h3, h4⟩ := h1 d' e'
          exact ⟨v', by simp [List.lookup, e, h3], h4⟩, fun e' => by
          simp [aget, e] at e'
          simp [List.lookup, e, h2 e']⟩
section
variable {X : Cx} {τ : TBL} {c : Cn τ} {Wx : WX} {e o a b d : Expr} {es : List Expr} {pos p p' p2 apos cpos : Pos} {x m : Str} {w : AA} {we wa wb wc : AE} {i : Nat} {f : Str}
def wFld (K : PySem.W.Frag) (f : Str) (we : AE) (env : Env) (Q : D → Env → Prop) (X : AX) : Prop := we env (fun d env1 => ∃ C ks ds x, d = .ins C ks ds ∧ (Cls K C ∧ NoAttr K C f) ∧ aget ks ds f = some x ∧ Q x env1) X
theorem a_fld (he : PE X e (liftE c Wx we)) (hb : attributeBase e f X.env (eval e X.env) = eval e X.env := by rfl) : PE X (.Attribute e f pos) (liftE c Wx (wFld X.K f we)) := PE.imp (fun σ H Q ⟨Av, env, Qa, Xa, g, q, k, x⟩ =>
  ⟨Av, env, _, Xa, g, q, fun d env1 v Av1 H1 q1 g1 m1 d1 => by
    obtain ⟨C, ks, ds, z, rfl, ⟨hC, hn⟩, e1, q1⟩ := q1
    cases d1 with
    | ins h na qs =>
      obtain ⟨v, e2, e3⟩ := (aget_val qs).1 z e1
      exact ⟨_, C, _, _, v, rfl, h, hC, hn, e2, k _ env1 v Av1 H1 q1 g1 m1 e3⟩, x⟩) (pe_fld he hb)
/-! ### a field stored (self, within __init__) -/
end
def putFk : List Str → Str → List Str
  | [], f => [f]
  | g :: r, f => if g = f then g :: r else g :: putFk r f
def putFd : List Str → List D → Str → D → List D
  | g :: r, x :: ds, f, d => if g = f then d :: ds else x :: putFd r ds f d
  | _, _, _, d => [d]
theorem putF_fst {f : Str} {v : V} : ∀ fs : List (Str × V), (putF f v fs).map (·.1) = putFk (fs.map (·.1)) f
  | [] => rfl
  | (g, x) :: r => by
    unfold putF
    rw [List.map_cons, putFk]
    split
    · rfl
    · rw [List.map_cons, putF_fst r]
theorem putF_snd {Av : AvS} {H : Hp} {f : Str} {v : V} {d : D} (hd : Den Av H v d) : ∀ {fs : List (Str × V)} {ds : List D}, Dens Av H (fs.map (·.2)) ds → Dens Av H ((putF f v fs).map (·.2)) (putFd (fs.map (·.1)) ds f d)
  | [], _, h => by cases h; exact .cons hd .nil
  | (g, x) :: r, _, h => by
    cases h with
    | cons h t =>
      rw [List.map_cons, putFd]
      unfold putF
      split
      · exact .cons hd t
      · exact .cons h (putF_snd hd t)
section
variable {X : Cx} {τ : TBL} {c : Cn τ} {Wx : WX} {e o a b d : Expr} {es : List Expr} {pos p p' p2 apos cpos : Pos} {x m : Str} {w : AA} {we wa wb wc : AE} {i : Nat} {f : Str}
def wSetA (K : PySem.W.Frag) (i : Nat) (f : Str) (wv : AE) (env : Env) (A : AEnds) : Prop := wv env (fun v env1 => ∃ q C ks ds, env1[i]? = some (.box q (.ins C ks ds)) ∧ (Cls K C ∧ NoAttr K C f) ∧ ks.length < 1000 ∧ A.nx (env1.set i (.box q (.ins C (putFk ks f) (putFd ks ds f v))))) A.ex
theorem s_setA {wv : AE} (hp : PE X (.Name x p) (tVar i)) (hv : PE X e (liftE c Wx wv)) (hs : swapsWith e (some (.Attribute (.Name x p) f p')) pos.line X.env = pure false := by rfl) : PS X (.Assign [.Attribute (.Name x p) f p'] e pos) (liftS c Wx (wSetA X.K i f wv)) :=
  PS.imp (fun D σ H ⟨Av, env, A, g, q, E⟩ => ⟨Av, env, _, _, g, q, fun v env1 vv Av1 H1 q1 g1 m1 d1 => by
    obtain ⟨qq, C, ks, ds, e1, ⟨hC, hn⟩, hl, q1⟩ := q1
    obtain ⟨a, e3, av, dx, fs, e4, e5, e6⟩ := g1.boxAt e1
    have mu : Mono Av1 H1 Av1 (L2.upd H1 a (.ins C dx (putF f vv fs))) := Mono.upd av
    obtain ⟨g3, m3⟩ := g1.boxTo (H' := L2.upd H1 a (.ins C dx (putF f vv fs))) (x' := .ins C (putFk ks f) (putFd ks ds f v)) e1 e3 ⟨dx, _, upd_same, by rw [putF_fst, e5], by
      have := putF_snd (f := f) d1 e6
      rw [e5] at this
      exact this.mono mu⟩ (fun b o hb e _ => by rw [upd_ne hb]; exact e) (tabs_but g1.tab e4 pla_ins fun b o hb e => by rw [upd_ne hb]; exact e)
    exact ⟨_, e3, a, C, dx, fs, rfl, e4, hC, hn, by rw [← List.length_map (f := (·.1)), e5]; exact hl, E.nx _ Av1 σ _ q1 g3 (m1.trans m3)⟩, E.ex _⟩) (ps_fld hp hv hs)
end
/-! ### __init__ -/
abbrev ConI := List D → (List Str → List D → Prop) → (Addr → D → Prop) → Prop
def spIni (τ : TBL) (C : Addr) (n : Nat) (con : ConI) : Sp := fun vs H Q E => ∃ Av ds a dx vr Qd Xd, vs = .ref a :: vr ∧ vs.length = n ∧ LamX.Tabs τ H ∧ Live Av H ∧ Av a ∧ H a = some (.ins C dx []) ∧ Dens Av H vr ds ∧ con ds Qd Xd ∧
  (∀ ks ds' dx' fs H', Qd ks ds' → H' a = some (.ins C dx' fs) → fs.map (·.1) = ks → Dens Av H' (fs.map (·.2)) ds' → FrP (fun b => b = a) H H' → LamX.Tabs τ H' → Q .non H') ∧
  (∀ C' d dd v H', Xd C' d → H' dd = some (.xd [("value", v)]) → ¬ Av dd → Den Av H' v d → FrP (fun b => b = a) H H' → LamX.Tabs τ H' → E (.ref C') (some dd) H')
def envI (n : Nat) (a C : Addr) (ds : List D) : Env := .box (some a) (.ins C [] []) :: (ds.map Sl.val ++ List.replicate (n - (ds.length + 1)) .un)
def bodyEndsI (a C : Addr) (Qd : List Str → List D → Prop) (Xd : Addr → D → Prop) : AEnds where
  rt := fun d env' => d = .non ∧ ∃ ks ds, env'[0]? = some (.box (some a) (.ins C ks ds)) ∧ Qd ks ds
  nx := fun env' => ∃ ks ds, env'[0]? = some (.box (some a) (.ins C ks ds)) ∧ Qd ks ds
  ex := fun C' d _ => Xd C' d
theorem fn_I {τ : TBL} {cal : Bool} {P : Program} {w : World} {K : PySem.W.Frag} {mg : Str → Option Value} {base : Heap} {x qual : Str} {st : Stmt} {f C : Addr} {fd : FuncData} {N ps : List Str} {k n : Nat} {con : ConI} (F : Fun K x qual st f fd) (S : FnScope N ps (defScope st)) (hn : ps.length = n) (hN : n ≤ N.length)
    (body : ∀ (cdv : Value) (A : Around) (outer : List PySem.Env) (s : Shared) (H : Hp) (E : XK) (c : Cn τ), Room k (A.deeper (PyProof.Rows.envOfC qual (defScope st) s.heap.objs.size f cdv)) → CalmB cal A → fd.code = cdv →
      ∃ W, PSs (cxOf (L2.CX P w) P w K mg base N qual (defScope st) f cdv A outer s H E) (defBody st) (liftS c (fun cls d _ H' => E cls d H') W) ∧
        ∀ a ds Qd Xd, ds.length + 1 = n → con ds Qd Xd → W (envI N.length a C ds) (bodyEndsI a C Qd Xd)) :
    FnG P w K mg base cal (k + 1) f fd ps (spIni τ C n con) := by
  refine FnG.body F S (fun vs H Q E h => ?_) (fun cdv A outer s H vs Q E hr hG hcv h => ?_)
  · obtain ⟨_, _, _, _, _, _, _, _, h, _⟩ := h
    rw [h, hn]
  · obtain ⟨Av, ds, a, dx, vr, Qd, Xd, rfl, hl, tab, live, av, ha, hd, q, k1, k2⟩ := h
    obtain ⟨W, hW, hb⟩ := body cdv A outer s H E ⟨H, Av, fun b => b = a⟩ hr hG hcv
    have dl : ds.length + 1 = n := by rw [← hd.length]; exact hl
    refine ⟨_, hW, Av, envI N.length a C ds, bodyEndsI a C Qd Xd, ?_, hb a ds Qd Xd dl q, ?_⟩
    · have slot : ∀ (i : Nat) s' o, (envI N.length a C ds)[i]? = some s' → (L2.start N (.ref a :: vr))[i]? = some o → (s' = .un) ∨ (i = 0 ∧ o = some (.ref a) ∧ s' = .box (some a) (.ins C [] [])) ∨ ∃ d v, ds[i - 1]? = some d ∧ vr[i - 1]? = some v ∧ o = some v ∧ s' = .val d := by
        intro i s' o e1 e2
        cases i with
        | zero =>
          simp [envI] at e1
          rcases start_get e2 with ⟨v, h3, h4⟩ | ⟨h3, _⟩
          · simp at h3
            exact .inr (.inl ⟨rfl, by rw [h4, ← h3], e1.symm⟩)
          · simp at h3
        | succ i =>
          have e1 : (ds.map Sl.val ++ List.replicate (N.length - (ds.length + 1)) Sl.un)[i]? = some s' := by simpa [envI] using e1
          by_cases h : i < ds.length
          · rw [List.getElem?_append_left (by simpa using h), List.getElem?_map] at e1
            cases e : ds[i]? with
            | none => rw [e] at e1; cases e1
            | some d =>
              rw [e] at e1
              cases e1
              rcases start_get e2 with ⟨v, h3, h4⟩ | ⟨h3, _⟩
              · exact .inr (.inr ⟨d, v, by simpa using e, by simpa using h3, h4, rfl⟩)
              · have := hd.length
                simp at h3
                omega
          · rw [List.getElem?_append_right (by simpa using h), List.getElem?_replicate] at e1
            split at e1
            · cases e1; exact .inl rfl
            · cases e1
      constructor
      · unfold envI L2.start
        have := hd.length
        simp
        omega
      · intro i s' o e1 e2
        rcases slot i s' o e1 e2 with rfl | ⟨_, rfl, rfl⟩ | ⟨d, v, h1, h2, rfl, rfl⟩
        · trivial
        · exact ⟨a, rfl, av, ⟨dx, [], ha, rfl, .nil⟩, .inl rfl, .inl rfl⟩
        · exact ⟨v, rfl, hd.getBoth h2 h1⟩
      · intro i j s' t o p b hij e1 e2 e3 e4 h1 h2
        have key : ∀ (l : Nat) s' o, (envI N.length a C ds)[l]? = some s' → (L2.start N (.ref a :: vr))[l]? = some o → ownA o s' = some b → l = 0 := by
          intro l s' o e1 e2 h1
          rcases slot l s' o e1 e2 with rfl | ⟨h, _⟩ | ⟨d, v, q1, q2, rfl, rfl⟩
          · cases o with
            | none => cases h1
            | some w => cases w <;> cases h1
          · exact h
          · cases v <;> cases h1
        exact hij ((key i s' o e1 e3 h1).trans (key j t p e2 e4 h2).symm)
      · exact fun b hb => hb
      · exact live
      · exact fun b o _ e _ => e
      · rintro b rfl
        exact ⟨_, ha, nt_ins⟩
      · exact tab
    · have am : ∀ {Av' : AvS} {σ' : L2.St} {H' : Hp} {env' : Env} {ks : List Str} {ds' : List D}, Good (τ := τ) ⟨H, Av, fun b => b = a⟩ Av' σ' H' env' → env'[0]? = some (.box (some a) (.ins C ks ds')) → ∃ dx' fs, H' a = some (.ins C dx' fs) ∧ fs.map (·.1) = ks ∧ Dens Av H' (fs.map (·.2)) ds' := fun g e => by
        obtain ⟨o, _, a', _, _, bx, _, hq⟩ := g.slot e
        have ea : a = a' := hq.elim (fun z => Option.some.inj z) fun z => nomatch z.1
        subst ea
        obtain ⟨dx', fs, h1, h2, h3⟩ := bx
        exact ⟨dx', fs, h1, h2, h3.mono (Mono.shrink g.lo)⟩
      constructor
      · rintro env' Av' σ' H' ⟨ks, ds', e, q'⟩ g' m'
        obtain ⟨dx', fs, h1, h2, h3⟩ := am g' e
        exact k1 ks ds' dx' fs H' q' h1 h2 h3 g'.fr g'.tab
      · rintro d env' Av' σ' H' v ⟨rfl, ks, ds', e, q'⟩ g' m' d'
        cases d'
        obtain ⟨dx', fs, h1, h2, h3⟩ := am g' e
        exact k1 ks ds' dx' fs H' q' h1 h2 h3 g'.fr g'.tab
      · exact fun _ _ _ _ q' => q'.elim
      · exact fun _ _ _ _ q' => q'.elim
      · intro σ' C' d env' Av' H' dd v q' g' m' e1 e2 e3
        exact k2 C' d dd v H' q' e1 (fun z => e2 (g'.lo dd z)) (e3.mono (Mono.shrink g'.lo)) g'.fr g'.tab
      · exact fun _ _ _ _ _ _ q' => q'.elim
section
variable {cal : Bool} {X : Cx} {τ : TBL} {c : Cn τ} {Wx : WX} {e o : Expr} {es : List Expr} {pos p apos : Pos} {x m : Str} {w : AA} {we : AE} {k n j : Nat} {f C : Addr} {fd : FuncData} {ps : List Str} {sp : Sp}
def tMakeG (C : Addr) (sp : Sp) (W : WX) (t : TA) : TE := fun σ H Q => t σ H fun vs H1 => ∀ x dx, H1 x = none → H1 dx = none → dx ≠ x →
  sp (.ref x :: vs) (upd (upd H1 dx (.own x)) x (.ins C dx [])) (fun v H2 => v = .non ∧ Q (.ref x) H2) fun cls d H' => W cls d σ H'
theorem pe_makeG {t : TA} (M : Mk X.K C f) (F : FnG X.prog X.w X.K X.mg X.base cal k f fd ps sp) (hr : Room (k + 1) X.A) (hG : CalmB cal X.A) (hg : Gl X x) (hm : X.mg x = some (.ref C)) (hb : Binds X.K fd ps []) (tk : Takes X Wx)
    (ha : PA X (e :: es) t) (hdb : (x == ("__debug__" : Str)) = false := by decide) (he : starEach (e :: es) X.env = (false, eval e X.env) :: starEach es X.env := by rfl) (hpl : (backTo pos (starEach es X.env)).any (·.1) = false := by rfl) :
    PE X (.Call (.Name x p) (e :: es) [] pos) (tMakeG C sp Wx t) := by
  refine ⟨fun pins s σ H Q I h => ?_⟩
  refine PySem.wpAny_Call_Name_kw (ld_glob I hg hm ?_ hdb)
  refine PySem.W.callWith_K (h₀ := X.base) I.ok.mod.kin M.kp (thn (ha.run pos pins s σ H _ I h) fun us s1 ⟨vs, H1, I1, r, q⟩ => ⟨I1.kIn, ?_⟩) he hpl
  have hq := q (s1.heap.objs.size + 1) s1.heap.objs.size (I1.hok.fresh (Nat.le_succ _)) (I1.hok.fresh (Nat.le_refl _)) (Nat.ne_of_lt (Nat.lt_succ_self _))
  have I2 := Inv.made (C := C) I1
  have r2 : Vals (V.ref (s1.heap.objs.size + 1) :: vs) (Value.ref (s1.heap.objs.size + 1) :: us) := .cons rfl r
  have hl : (Value.ref (s1.heap.objs.size + 1) :: us ++ []).length = ps.length := by
    have e := r2.length
    rw [F.len _ _ _ _ hq] at e
    rw [List.append_nil]
    exact e.symm
  have bd := hb _ (Value.ref (s1.heap.objs.size + 1) :: us) I2.kIn hl
  rw [List.append_nil] at bd
  refine wpAny_call (make_map (f := f) I1.kIn M.makes M.init (beq_iff_eq.mp M.fn) (codeAny_mono (F.run _ (hr.make C us []) (calm_make hG C us []) X.stack _ _ (I2.env0.make C us []) ⟨Value.ref (s1.heap.objs.size + 1) :: us, []⟩ (Value.ref (s1.heap.objs.size + 1) :: us) _ bd r2 _ _ hq) fun r s' hq' => ?_))
  rcases back_to tk I2 hq' with ⟨u, rfl, z1⟩ | ⟨er, rfl, z1⟩
  · obtain ⟨v, H', I3, rv, ev, q3⟩ := z1
    subst ev
    exact ⟨rv, ⟨V.ref (s1.heap.objs.size + 1), H', I3, rfl, q3⟩⟩
  · exact z1
end
end DL
set_option Elab.async false
set_option linter.all false
set_option maxRecDepth 100000
set_option maxHeartbeats 4000000
namespace DL
open PySem L2
section
variable {cal : Bool} {X : Cx} {τ : TBL} {c : Cn τ} {Wx : WX} {e o : Expr} {es : List Expr} {pos p apos : Pos} {x m : Str} {w : AA} {we : AE} {k n j : Nat} {f C : Addr} {fd : FuncData} {ps : List Str} {sp : Sp}
/-! ### C(..): an instance as a value -/
def wMake (C : Addr) (n : Nat) (con : ConI) (w : AA) (env : Env) (Q : D → Env → Prop) (X : AX) : Prop := w env (fun as env1 => (as.length + 1 = n ∧ agR as 0 = []) ∧ con (agDs as) (fun ks ds => Q (.ins C ks ds) env1) (fun C' d => X C' d env1)) X
structure DefI' (P : Program) (w : World) (K : PySem.W.Frag) (mg : Str → Option Value) (base : Heap) (τ : TBL) (cal : Bool) (k : Nat) (x : Str) (C : Addr) (n : Nat) (con : ConI) : Prop where
  ex : ∃ f fd ps, Mk K C f ∧ FnG P w K mg base cal k f fd ps (spIni τ C n con) ∧ mg x = some (.ref C) ∧ Binds K fd ps []
theorem a_make {con : ConI} (h : DefI' X.prog X.w X.K X.mg X.base τ cal k x C n con) (hr : Room j X.A) (hkj : k + 1 ≤ j) (hG : CalmB cal X.A) (hg : Gl X x) (tk : Takes X Wx) (ha : PA X (e :: es) (liftA c Wx w))
    (hdb : (x == ("__debug__" : Str)) = false := by decide) (he : starEach (e :: es) X.env = (false, eval e X.env) :: starEach es X.env := by rfl) (hpl : (backTo pos (starEach es X.env)).any (·.1) = false := by rfl) :
    PE X (.Call (.Name x p) (e :: es) [] pos) (liftE c Wx (wMake C n con w)) := by
  obtain ⟨f, fd, ps, M, F, hm, hb⟩ := h.ex
  refine PE.imp (fun σ H Q ⟨Av, env, Qa, Xa, g, q, k, xx⟩ => ?_) (pe_makeG M F (hr.mono hkj) hG hg hm hb tk ha hdb he hpl)
  refine ⟨Av, env, _, Xa, g, q, fun as env1 vs Av1 H1 q1 g1 m1 d1 => ?_, xx⟩
  obtain ⟨⟨hl, hr0⟩, q1⟩ := q1
  intro y dx hy hdx hne
  have ds := agR_none hr0 d1
  have kp : ∀ b o, H1 b = some o → L2.upd (L2.upd H1 dx (.own y)) y (.ins C dx []) b = some o := fun b o e => by
    rw [upd_ne (ne_of_none e hy), upd_ne (ne_of_none e hdx)]; exact e
  have na := g1.notAv hy
  have m2 : Mono Av1 H1 (add Av1 y) (L2.upd (L2.upd H1 dx (.own y)) y (.ins C dx [])) := ⟨fun a h => h.imp id fun z => by rw [z]; exact nosol hy, fun a o _ e _ => kp a o e⟩
  refine ⟨add Av1 y, agDs as, y, dx, vs, _, _, rfl, ?_, g1.tab.ext kp, fun b hb => ?_, .inr rfl, upd_same, ds.mono m2, q1, fun ks ds' dx' fs H3 q3 e1 e2 e3 fr tb => ?_, fun C' d dd v H3 q3 e1 e2 e3 fr tb => ?_⟩
  · rw [List.length_cons, d1.length, agDs_len]; exact hl
  · rcases hb with hb | hb
    · obtain ⟨u, eu, nt⟩ := g1.live b hb
      exact ⟨u, kp b u eu, nt⟩
    · rw [hb]; exact ⟨_, upd_same, nt_ins⟩
  · have kp3 : ∀ b o, H1 b = some o → NT o → H3 b = some o := fun b o e nt => fr b o (ne_of_none e hy) (kp b o e) nt
    subst e2
    exact ⟨rfl, k _ env1 (.ref y) Av1 H3 q3 (g1.kept kp3 tb) (m1.trans (Mono.kept kp3)) (.ins e1 na (e3.mono (Mono.shrink fun a h => .inl h)))⟩
  · have kp3 : ∀ b o, H1 b = some o → NT o → H3 b = some o := fun b o e nt => fr b o (ne_of_none e hy) (kp b o e) nt
    exact xx C' d env1 Av1 H3 dd v q3 (g1.kept kp3 tb) (m1.trans (Mono.kept kp3)) e1 (fun z => e2 (.inl z)) (e3.mono (Mono.shrink fun a h => .inl h))
/-! ### methods -/
def tMethG (C : Addr) (m : Str) (sp : Sp) (W : WX) (ta : TE) (t : TA) : TE := fun σ H Q => ta σ H fun x H1 => ∃ a dx fs, x = .ref a ∧ H1 a = some (.ins C dx fs) ∧ fs.lookup m = none ∧ t σ H1 fun vs H2 => sp (x :: vs) H2 Q fun cls d H' => W cls d σ H'
theorem pe_methG {pl : Sem Bool} {ta : TE} {t : TA} (he : PE X o ta) (hC : Cls X.K C) (hm : Meth X.K C m f) (F : FnG X.prog X.w X.K X.mg X.base cal k f fd ps sp) (hr : Room k X.A) (hG : CalmB cal X.A) (hb : Binds X.K fd ps []) (tk : Takes X Wx) (ha : PA X (e :: es) t)
    (hst : starEach (e :: es) X.env = (false, eval e X.env) :: starEach es X.env := by rfl) (hpl : (backTo pos (starEach es X.env)).any (·.1) = false := by rfl)
    (ht : eval (.Call (.Attribute o m apos) (e :: es) [] pos) X.env = (do
      let ov ← eval o X.env
      standAt apos.atName
      let (f, first) ← holding [ov] (getMethod ov m pl)
      callWith pos f first (backTo pos (starEach (e :: es) X.env)) (backToKw pos (keywordEach [] X.env))) := by rfl) :
    PE X (.Call (.Attribute o m apos) (e :: es) [] pos) (tMethG C m sp Wx ta t) := by
  refine ⟨fun pins s σ H Q I h => ?_⟩
  refine PySem.W.methodCall_KW (pl := pl) (thn (he.run pins s σ H _ I h) fun u s1 ⟨x, H1, I1, rx, a, dx, fs, ex, ea, l, q⟩ => ?_) ht
  subst ex
  obtain rfl : u = Value.ref a := rx
  refine getmeth_ok I1 ea hC hm l ?_
  refine PySem.W.callWith_K (first := [.ref a]) (h₀ := X.base) I.ok.mod.kin hm.kp (thn (ha.run pos pins s1 σ H1 _ I1 q) fun us s2 ⟨vs, H2, I2, r, q2⟩ => ⟨I2.kIn, ?_⟩) hst hpl
  exact runG (us := .ref a :: us) (vs := .ref a :: vs) F hr hG hb tk I2 (.cons rfl r) q2
structure DefM (P : Program) (w : World) (K : PySem.W.Frag) (mg : Str → Option Value) (base : Heap) (τ : TBL) (cal : Bool) (k : Nat) (C : Addr) (m : Str) (n : Nat) (mi : Option Nat) (con : Con) : Prop where
  ex : ∃ f fd ps, Cls K C ∧ Meth K C m f ∧ FnG P w K mg base cal k f fd ps (spOf τ n mi con) ∧ Binds K fd ps []
def wMeth (C : Addr) (m : Str) (n : Nat) (mi : Option Nat) (con : Con) (we : AE) (w : AA) (env : Env) (Q : D → Env → Prop) (X : AX) : Prop := we env (fun d env1 => ∃ ks ds, d = .ins C ks ds ∧ aget ks ds m = none ∧ w env1 (fun as env2 => as.length + 1 = n ∧ wCon mi con (.vl d :: as) env2 Q X) X) X
theorem meth_lift {mi : Option Nat} {con : Con} : ∀ σ H Q, liftE c Wx (wMeth C m n mi con we w) σ H Q → tMethG C m (spOf τ n mi con) Wx (liftE c Wx we) (liftA c Wx w) σ H Q := fun σ H Q ⟨Av, env, Qa, Xa, g, q, k, xx⟩ =>
  ⟨Av, env, _, Xa, g, q, fun d env1 v Av1 H1 q1 g1 m1 d1 => by
    obtain ⟨ks, ds, rfl, hn, q1⟩ := q1
    have d0 := d1
    cases d1 with
    | ins h na qs =>
      refine ⟨_, _, _, rfl, h, (aget_val qs).2 hn, Av1, env1, _, Xa, g1, q1, fun as env2 vs Av2 H2 q2 g2 m2 d2 => ?_, xx.mono m1⟩
      obtain ⟨hl, q2⟩ := q2
      exact call_core (by rw [List.length_cons, d2.length, agDs_len]; exact hl) g2 (m1.trans m2) (.cons (show AgOk Av2 σ H2 _ (.vl _) from Den.mono m2 d0) d2) q2 k xx, xx⟩
theorem a_meth {pl : Sem Bool} {mi : Option Nat} {con : Con} (h : DefM X.prog X.w X.K X.mg X.base τ cal k C m n mi con) (ho : PE X o (liftE c Wx we)) (hr : Room j X.A) (hkj : k ≤ j) (hG : CalmB cal X.A) (tk : Takes X Wx) (ha : PA X (e :: es) (liftA c Wx w))
    (hst : starEach (e :: es) X.env = (false, eval e X.env) :: starEach es X.env := by rfl) (hpl : (backTo pos (starEach es X.env)).any (·.1) = false := by rfl)
    (ht : eval (.Call (.Attribute o m apos) (e :: es) [] pos) X.env = (do
      let ov ← eval o X.env
      standAt apos.atName
      let (f, first) ← holding [ov] (getMethod ov m pl)
      callWith pos f first (backTo pos (starEach (e :: es) X.env)) (backToKw pos (keywordEach [] X.env))) := by rfl) :
    PE X (.Call (.Attribute o m apos) (e :: es) [] pos) (liftE c Wx (wMeth C m n mi con we w)) := by
  obtain ⟨f, fd, ps, hC, hm, F, hb⟩ := h.ex
  exact PE.imp meth_lift (pe_methG ho hC hm F (hr.mono hkj) hG hb tk ha hst hpl ht)
end
end DL
set_option Elab.async false
set_option linter.all false
set_option maxRecDepth 100000
set_option maxHeartbeats 4000000
namespace DL
open PySem L2
/-! ### a, b = two new lists -/
theorem ExE.blk {τ : TBL} {c : Cn τ} {Wx : WX} {Av : AvS} {σ : L2.St} {H : Hp} {env : Env} {p : Addr} {ob : HO} {X : AX} (x : ExE c Wx σ Av H X) (f : Hid c Av σ H env p) (hv : H p = some ob) (hnt : NT ob) : ExE (blkCn c p σ H env) Wx σ Av H X :=
  fun C d env' Av' H' dd v q g m e1 e2 e3 => x C d env' Av' H' dd v q (f.unbase hv hnt g m).1 m e1 e2 e3
section
variable {X : Cx} {τ : TBL} {c : Cn τ} {Wx : WX} {a b : Expr} {pos : Pos} {wa wb : AF} {we : AE}
def wParFF (i j : Nat) (wa wb : AF) (env : Env) (A : AEnds) : Prop := wa env (fun xs env1 => wb env1 (fun ys env2 => A.nx ((env2.set i (.own xs)).set j (.own ys))) A.ex) A.ex
theorem s_parFF {i j : Nat} {x y : Str} {px py pt : Pos} {kt k2 pt2} (hc : X.calm = true) (hN : X.N.Nodup) (hi : X.N[i]? = some x) (hj : X.N[j]? = some y) (hij : i ≠ j) (hx : X.env.scope.names.lookup x = some .local) (hy : X.env.scope.names.lookup y = some .local) (ha : PE X a (liftF c Wx wa)) (hb : ∀ c' : Cn τ, PE X b (liftF c' Wx wb))
    (hw : swappedStores [.Tuple [.Name x px, .Name y py] kt pt] (.Tuple [a, b] k2 pt2) X.env = pure (some [x, y])) (hs : swapsWithSole [.Tuple [.Name x px, .Name y py] kt pt] (.Tuple [a, b] k2 pt2) pos.line X.env = pure false := by rfl)
    (h1 : starEach [a, b] X.env = (false, eval a X.env) :: starEach [b] X.env := by rfl) (h2 : starEach [b] X.env = (false, eval b X.env) :: starEach [] X.env := by rfl) :
    PS X (.Assign [.Tuple [.Name x px, .Name y py] kt pt] (.Tuple [a, b] k2 pt2) pos) (liftS c Wx (wParFF i j wa wb)) := by
  have hbA : PE X b (fun σ H Q => ∃ c' : Cn τ, liftF c' Wx wb σ H Q) := ⟨fun pins s σ H Q I ⟨c', q⟩ => (hb c').run pins s σ H Q I q⟩
  refine PS.imp (fun D σ H ⟨Av, env, A, g, q, E⟩ => ?_) (ps_par hc hN hi hj hij hx hy (pa_cons ha (pa_cons hbA pa_nil h2) h1) hw hs)
  refine ⟨Av, env, _, _, g, q, fun xs env1 p1 Av1 H1 q1 f1 m1 => ?_, E.ex _⟩
  obtain ⟨vs1, e1, dn1⟩ := f1.at_
  refine ⟨blkCn c p1 σ H1 env1, Av1, env1, _, _, f1.hid.rebase, q1, fun ys env2 p2 Av2 H2 q2 f2 m2 => ⟨_, _, rfl, ?_⟩, ((E.ex _).mono m1).blk f1.hid e1 nt_lst⟩
  obtain ⟨g2, no2, in2, e2⟩ := f1.hid.unbase e1 nt_lst f2.g m2
  have F1 : Fresh c Av2 σ H2 env2 p1 xs := ⟨g2, in2, no2, f1.n0, f1.h0, vs1, e2, dn1.mono m2⟩
  have G1 := F1.toOwn i
  have hne : p2 ≠ p1 := fun z => f2.n0 (.inr z)
  have hl : env2.length = σ.length := g2.len
  have F2 : Fresh c Av2 (σ.set i (some (.ref p1))) H2 (env2.set i (.own xs)) p2 ys := by
    refine ⟨G1, f2.inn, fun k s o k1 k2 => ?_, fun z => f2.n0 (.inl z), f1.g.freeS f2.h0, f2.at_⟩
    rw [List.getElem?_set] at k1 k2
    by_cases h : i = k
    · subst h
      rw [if_pos rfl] at k1 k2
      split at k1
      · split at k2
        · cases k1; cases k2
          exact fun z => hne (Option.some.inj z).symm
        · cases k2
      · cases k1
    · rw [if_neg h] at k1 k2
      exact f2.no k s o k1 k2
  exact E.nx _ Av2 _ H2 q2 (F2.toOwn j) (m1.trans m2)
end
end DL
set_option Elab.async false
set_option linter.all false
set_option maxRecDepth 100000
set_option maxHeartbeats 4000000
namespace DLK
open PySem PySem.Spec PyProof.Rows L2
section
variable {X : Cx} {pins : List (Addr × Obj)} {σ : L2.St} {H : Hp} {s : Shared}
/-- what stands and is of nobody's before is tracked from now on -/
theorem track {a : Addr} {o : HO} (I : Inv X pins σ H s) (h0 : X.s_0.heap.get? a = none) (hn : H a = none) (hl : a ≠ X.env.locals) (hc : ∀ x c, X.env.cells.lookup x = some c → a ≠ c) (hp : ∀ p ∈ X.pn ++ pins, a ≠ p.1) (new : ObjOk X.prog X.w (upd H a o) s.heap a o) : Inv X pins σ (upd H a o) s where
  ok := I.ok
  os := I.os
  bare := I.bare
  base := by
    have u := I.base
    refine ⟨u.keep, u.slot, fun b ob e n hx => ?_, u.there, fun b xs e => ?_, fun b ob xs e => ?_, fun b ps e => ?_⟩
    · rw [upd_ne (fun z => by rw [z, h0] at e; cases e)]
      exact u.free b ob e n hx
    · have q := u.tups b xs e
      rw [upd_ne (ne_of_none q hn)]; exact q
    · have q := u.frzs b ob xs e
      rw [upd_ne (ne_of_none q hn)]; exact q
    · obtain ⟨more, q⟩ := u.tbls b ps e
      exact ⟨more, by rw [upd_ne (ne_of_none q hn)]; exact q⟩
  loc := I.loc
  cell := I.cell
  free := by rw [upd_ne (Ne.symm hl)]; exact I.free
  freeC := fun x c e => by rw [upd_ne (Ne.symm (hc x c e))]; exact I.freeC x c e
  pin := fun p h => by
    obtain ⟨p1, p2, p3⟩ := I.pin p h
    exact ⟨p1, by rw [upd_ne (Ne.symm (hp p h))]; exact p2, p3⟩
  hok := HOk.laidN I.hok (fun _ _ e => e) hn new
  len := I.len
end
/-- what the clause wishes: the exception goes into slot j -/
def wKeep (K : PySem.W.Frag) (c : Value) (i j : Nat) (Wout : WX) (D : Ends) : WX := fun cls d σ H =>
  ∃ b, PySem.W.exmOne K cls c = some b ∧ (b = true → ∀ a, H a = none → D.nx (((σ.set i (some (.ref a))).set j (some (.ref a))).set i none) (upd H a (ExK a cls d))) ∧ (b = false → Wout cls d σ H)
section
variable {X : Cx} {x n y : Str} {c : Value} {i j : Nat} {body : List Stmt} {np pos pos' py pn2 pa : Pos} {tb : WX → TS} {Wout : WX}
theorem ps_keep (hs : X.stack = X.env :: X.outer) (hf : X.env.frame = some X.env.locals) (hx : X.ex = []) (hN : X.N.Nodup) (hi : X.N[i]? = some n) (hj : X.N[j]? = some y) (hln : X.env.kindOf n = some .local) (hly : X.env.kindOf y = some .local) (hc : Names X x c) (tk : Takes X Wout)
    (hnd : (n == ("__debug__" : Str)) = false) (hnc : (n == ("__classdict__" : Str)) = false) (hsw : ∀ a pn, swapsWith (.Name n pn2) (some (.Name y py)) pa.line (X.suite a pn).env = pure false)
    (hb : ∀ (W : WX) (pn : List (Addr × Obj)) (xe : Value → Shared → Prop), Takes (X.tr pn xe) W → PassesOwn (model X.prog X.w) X.A X.env xe → PSs (X.tr pn xe) body (tb W)) :
    PS X (.Try body [.ExceptHandler (some (.Name x np)) (some n) [.Assign [.Name y py] (.Name n pn2) pa] pos'] [] [] pos) (fun D σ H => tb (wKeep X.K c i j Wout D) D σ H) := by
  refine ⟨fun pins s σ H D I h => ?_⟩
  have ok := I.ok
  have fr2 : X.A.frames = some (X.env :: X.outer) := by rw [ok.frames, hs]
  refine wpAny_Try_except ?_
  refine wpAny_mono ((hb (wKeep X.K c i j Wout D) (X.pn ++ pins) _ ?tk PassesOwn.looking).run [] s σ H D (I.toTry _) h) (fun f s1 hsp => ?nx) (fun e s1 he => he)
  case nx =>
    cases f with
    | next => exact (let ⟨σ', H', J, q⟩ := hsp; wpAny_execs_nil ⟨σ', H', J.ofTry ok, q⟩)
    | brk => exact (let ⟨σ', H', J, q⟩ := hsp; ⟨σ', H', J.ofTry ok, q⟩)
    | cont => exact (let ⟨σ', H', J, q⟩ := hsp; ⟨σ', H', J.ofTry ok, q⟩)
    | ret u => exact (let ⟨v, σ', H', J, r, q⟩ := hsp; ⟨v, σ', H', J.ofTry ok, r, q⟩)
  case tk =>
    intro u s' xx
    obtain ⟨a, B, sI, pins', σ', H', cls, d, rfl, Jt, nb, up, sky, na, os, ag, b, hb1, hyes, hno⟩ := xx
    have J : Inv X pins σ' H' sI := Jt.ofTry ok
    have sk : Sky B (X.env :: X.outer) a (Zc cls d) X.env.locals s'.heap := by rw [← hs]; exact sky
    have Ba : B.get? a = none := by rcases sk with z | z | z <;> exact z.2.1
    show wpAny (model X.prog X.w) X.A (noteFrame (.ref a) X.env) _ _ _
    refine Sky.land Zc.steady fr2 hf sk fun h3 fl3 up3 => ?_
    have J3 : Inv X pins σ' H' { s' with heap := h3 } := J.landed nb fl3.1 (up.trans up3) os ag
    obtain ⟨oe3, vs3, he3, hz3, hd3⟩ := fl3.there
    have nfr : a ∉ frs (X.env :: X.outer) := fun hm => by
      obtain ⟨_, o', e', q⟩ := fl3.2.2.1.mem hm
      rw [he3] at e'; cases e'
      exact q _ hd3
    have nI : sI.heap.get? a = none := by
      cases e : sI.heap.get? a with
      | none => rfl
      | some o =>
        have z := nb a o e (by rw [hs]; exact nfr)
        rw [Ba] at z; cases z
    have n0 : X.s_0.heap.get? a = none := by
      cases e : X.s_0.heap.get? a with
      | none => rfl
      | some o =>
        obtain ⟨o', z⟩ := J.base.there a o e (by rw [hx]; exact List.not_mem_nil)
        rw [nI] at z; cases z
    have nP : ∀ p ∈ X.pn ++ pins, a ≠ p.1 := fun p hp z => by
      have q := (J.pin p hp).1
      rw [← z, nI] at q; cases q
    have nL : a ≠ X.env.locals := fun z => nfr (List.mem_filterMap.mpr ⟨X.env, List.mem_cons_self, by rw [hf, z]⟩)
    have nF : a ∉ X.fs := fun hm => by
      obtain ⟨e, he, q⟩ := List.mem_filterMap.mp hm
      exact nfr (List.mem_filterMap.mpr ⟨e, List.mem_cons_of_mem _ he, q⟩)
    have S3 := J3.suite he3 hd3 na nL nF
    refine wpAny_handleBy_cons (codeAny_handlers_test ?_) (by intro q; cases q)
    have LT : PySem.W.Looks (model X.prog X.w) h3 (typeOf (.ref a)) cls := fun A Q E s k q => wpAny_typeOf_ref (k _ _ he3) (by rw [hz3.1]; exact q)
    have LM := PySem.W.exm_one (M := model X.prog X.w) (J3.kIn) LT hb1
    have test : ∀ {Q : Value → Shared → Prop} {E : Value → Shared → Prop}, Q c { s' with heap := h3 } → wpAny (model X.prog X.w) (X.A.mark (some (.ref a))) (eval (.Name x np) X.env) Q E { s' with heap := h3 } := fun {Q E} q => by
      rcases hc with ⟨hg, hdbg, hm | ⟨hm, hv, hnn⟩⟩
      · exact ld_glob (X := X.suite a ((a, oe3) :: (X.pn ++ pins))) S3 hg hm q hdbg
      · exact ld_blt (X := X.suite a ((a, oe3) :: (X.pn ++ pins))) S3 hg hm hv q hnn hdbg
    refine test (LM.here ?_)
    cases b with
    | true =>
      refine codeAny_handlers_suite_as (HandSPX.lands_againZ fl3 fun h4 fl4 up4 => ?_)
      have J4 : Inv X pins σ' H' { s' with heap := h4 } := J.landed nb fl4.1 ((up.trans up3).trans up4) os ag
      obtain ⟨oe4, vs4, he4, hz4, hd4⟩ := fl4.there
      have S4 := J4.suite he4 hd4 na nL nF
      refine store_ok (X := X.suite a ((a, oe4) :: (X.pn ++ pins))) (v := .ref a) S4 hN hi (.inl hln) rfl (fun s5 S5 => ?_) (.inr hln)
      have pv : PE (X.suite a ((a, oe4) :: (X.pn ++ pins))) (.Name n pn2) (tVar i) := pe_var hi (.inl hln) hnd hnc
      have st := pss_one (ps_set (X := X.suite a ((a, oe4) :: (X.pn ++ pins))) (i := j) hN hj (.inl hly) pv (hsw a _) (.inr hly))
      have li : i < σ'.length := by
        rw [J.len]; exact (List.getElem?_eq_some_iff.mp hi).1
      refine wpAny_mono (st.run [] s5 _ H' { nx := fun σ6 H6 => σ6 = (σ'.set i (some (.ref a))).set j (some (.ref a)) ∧ H6 = H', rt := fun _ _ => False } S5 ⟨.ref a, by rw [List.getElem?_set, if_pos rfl, if_pos li], rfl, rfl⟩) (fun f s6 hsp => ?_) (fun _ _ z => False.elim z)
      cases f with
      | next =>
        obtain ⟨σ6, H6, S6, rfl, rfl⟩ := hsp
        have pa := S6.pin (a, oe4) (List.mem_append_left _ List.mem_cons_self)
        have T := track (o := ExK a cls d) (S6.unsuite ok) n0 na nL (fun z cc e1 e2 => by
          obtain ⟨v, oc, e3, e4⟩ := S6.cell z cc e1
          rw [← e2, pa.1] at e3
          cases e3
          rw [hd4] at e4
          first | cases e4 | exact absurd e4.2 (by intro q; cases q) | (obtain ⟨_, q⟩ := e4; cases q)) nP (exK_ok pa.1 hz4 hd4)
        exact gone_ok T hN hi hln fun s7 J7 => ⟨_, _, J7, hyes rfl a na⟩
      | brk => exact (let ⟨_, _, _, z⟩ := hsp; z.elim)
      | cont => exact (let ⟨_, _, _, z⟩ := hsp; z.elim)
      | ret u => exact (let ⟨_, _, _, _, _, z⟩ := hsp; z.elim)
    | false =>
      show wpAny _ X.A (handleBy (.ref a) X.env []) _ _ _
      refine wpAny_handleBy_nil ?_
      obtain ⟨k1, k2, k3, oe, vs, T, oT, ts', he, hz, hd, h1, hr⟩ := id fl3
      unfold PySem.passOn
      refine wpAny_bind (wpAny_field he hd h1 ?_)
      rw [if_neg (show ¬ ((Value.ref T == Value.none) = true) from by simp)]
      have fin : wpAny (model X.prog X.w) X.A (setFlight (.ref a) X.env.frame) (fun _ s4 => wpAny (model X.prog X.w) X.A (throw (.ref a) : Sem Flow) (SP X pins D) X.xe s4) X.xe { s' with heap := h3 } := by
        rw [hf]
        refine HandSPX.setFlight_upZ fl3 fun h4 hh4 up4 => wpAny_throw (tk _ _ ?_)
        exact ⟨a, B, sI, pins, σ', H', cls, d, rfl, J, nb, (up.trans up3).trans up4, .inr (.inr (by rw [hs]; exact hh4)), na, os, ag, hno rfl⟩
      first
        | exact wpAny_bind (wpAny_pure (wpAny_bind fin))
        | exact wpAny_bind fin
end
end DLK
set_option Elab.async false
set_option linter.all false
set_option maxRecDepth 100000
set_option maxHeartbeats 4000000
namespace DL
open PySem L2
section
variable {X : Cx} {τ : TBL} {c : Cn τ} {Wx : WX} {x n y : Str} {cc : Addr} {i j : Nat} {body : List Stmt} {np pos pos' py pn2 pa : Pos} {wb : AS}
/-- try: .. except C as n: y = n -/
def wTry (K : PySem.W.Frag) (cc : Addr) (i j : Nat) (wb : AS) (env : Env) (A : AEnds) : Prop := wb env { A with ex := fun C d env1 => ∃ b, PySem.W.exmOne K (.ref C) (.ref cc) = some b ∧ (b = true → A.nx (((env1.set i .un).set j (.val (.err C d))).set i .un)) ∧ (b = false → A.ex C d env1) }
theorem s_try (hs : X.stack = X.env :: X.outer) (hf : X.env.frame = some X.env.locals) (hx : X.ex = []) (hN : X.N.Nodup) (hi : X.N[i]? = some n) (hj : X.N[j]? = some y) (hln : X.env.kindOf n = some .local) (hly : X.env.kindOf y = some .local) (hc : Names X x (.ref cc)) (tk : Takes X Wx)
    (hnd : (n == ("__debug__" : Str)) = false) (hnc : (n == ("__classdict__" : Str)) = false) (hsw : ∀ a pn, swapsWith (.Name n pn2) (some (.Name y py)) pa.line (X.suite a pn).env = pure false)
    (hb : ∀ (W : WX) (pn : List (Addr × Obj)) (xe : Value → Shared → Prop), Takes (X.tr pn xe) W → PassesOwn (model X.prog X.w) X.A X.env xe → PSs (X.tr pn xe) body (liftS c W wb)) :
    PS X (.Try body [.ExceptHandler (some (.Name x np)) (some n) [.Assign [.Name y py] (.Name n pn2) pa] pos'] [] [] pos) (liftS c Wx (wTry X.K cc i j wb)) := PS.imp (fun D σ H ⟨Av, env, A, g, q, E⟩ => by
      refine ⟨Av, env, _, g, q, ⟨E.nx, E.rt, E.bk, E.ct, ?_, E.rf⟩⟩
      rintro σ1 C d env1 Av1 H1 dd v ⟨b, hb1, hy, hn⟩ g1 m1 e1 e2 e3
      refine ⟨b, hb1, fun hbt a ha => ?_, fun hbf => E.ex σ1 C d env1 Av1 H1 dd v (hn hbf) g1 m1 e1 e2 e3⟩
      have ne : dd ≠ a := fun z => by rw [z, ha] at e1; cases e1
      have g2 := ((g1.new (ob := DLK.ExK a (.ref C) (some dd)) ha).unAt i (some (.ref a))).setVal (v := .ref a) (d := .err C d) (.errK upd_same (by rw [upd_ne ne]; exact e1) (g1.notAv ha) e2 (Den.mono (Mono.new ha) e3)) j
      exact E.nx _ Av1 _ _ (hy hbt) (g2.unAt i none) (m1.trans (Mono.new ha))) (DLK.ps_keep hs hf hx hN hi hj hln hly hc tk hnd hnc hsw hb)
end
end DL
namespace DL
open PySem L2
theorem units65 {k : Nat} {A : Around} (r : Room k A) : A.units + 65 < cLine := by have := r.un; omega
end DL
namespace DL
open PySem L2
structure DefTM (K : PySem.W.Frag) (C : Addr) (m qual : Str) (st : Stmt) (ps : List Str) : Prop where
  ex : ∃ f fd, Fun K m qual st f fd ∧ Cls K C ∧ Meth K C m f ∧ Binds K fd ps []
structure DefTI (K : PySem.W.Frag) (mg : Str → Option Value) (x : Str) (C : Addr) (qual : Str) (st : Stmt) (ps : List Str) : Prop where
  ex : ∃ f fd, Fun K "__init__" qual st f fd ∧ Mk K C f ∧ mg x = some (.ref C) ∧ Binds K fd ps []
section
variable {τ : TBL} {cal : Bool} {P : Program} {w : World} {K : PySem.W.Frag} {mg : Str → Option Value} {base : Heap} {x m qual : Str} {C : Addr} {st : Stmt} {N ps : List Str} {k n : Nat} {mi : Option Nat}
theorem def_M {con : Con} (T : DefTM K C m qual st ps) (S : FnScope N ps (defScope st)) (hn : ps.length = n) (hN : n ≤ N.length)
    (body : ∀ (f : Addr) (cdv : Value) (A : Around) (outer : List PySem.Env) (s : Shared) (H : Hp) (E : XK) (c : Cn τ), Room k (A.deeper (PyProof.Rows.envOfC qual (defScope st) s.heap.objs.size f cdv)) → CalmB cal A →
      ∃ W, PSs (cxOf (L2.CX P w) P w K mg base N qual (defScope st) f cdv A outer s H E) (defBody st) (liftS c (fun cls d _ H' => E cls d H') W) ∧
        ∀ a ds m Qd Xd, ds.length = n → (mi = none → m = []) → con ds m Qd Xd → W (env0 N.length mi a m ds) (bodyEnds mi a m Qd Xd)) : DefM P w K mg base τ cal (k + 1) C m n mi con := by
  obtain ⟨f, fd, F, hC, hm, hb⟩ := T.ex
  exact ⟨f, fd, ps, hC, hm, fn_A F S hn hN (fun cdv A outer s H E c hr hG _ => body f cdv A outer s H E c hr hG), hb⟩
theorem def_I {con : ConI} (T : DefTI K mg x C qual st ps) (S : FnScope N ps (defScope st)) (hn : ps.length = n) (hN : n ≤ N.length)
    (body : ∀ (f : Addr) (cdv : Value) (A : Around) (outer : List PySem.Env) (s : Shared) (H : Hp) (E : XK) (c : Cn τ), Room k (A.deeper (PyProof.Rows.envOfC qual (defScope st) s.heap.objs.size f cdv)) → CalmB cal A →
      ∃ W, PSs (cxOf (L2.CX P w) P w K mg base N qual (defScope st) f cdv A outer s H E) (defBody st) (liftS c (fun cls d _ H' => E cls d H') W) ∧
        ∀ a ds Qd Xd, ds.length + 1 = n → con ds Qd Xd → W (envI N.length a C ds) (bodyEndsI a C Qd Xd)) : DefI' P w K mg base τ cal (k + 1) x C n con := by
  obtain ⟨f, fd, F, hM, hm, hb⟩ := T.ex
  exact ⟨f, fd, ps, hM, fn_I F S hn hN (fun cdv A outer s H E c hr hG _ => body f cdv A outer s H E c hr hG), hm, hb⟩
end
end DL
set_option Elab.async false
set_option linter.all false
set_option maxRecDepth 100000
set_option maxHeartbeats 4000000
namespace DL
open PySem L2
theorem Fresh.setVal {τ : TBL} {c : Cn τ} {Av : AvS} {σ : L2.St} {H : Hp} {env : Env} {p : Addr} {ds : List D} {v : V} {d : D} (f : Fresh c Av σ H env p ds) (hv : Den Av H v d) (i : Nat) : Fresh c Av (σ.set i (some v)) H (env.set i (.val d)) p ds := by
  refine ⟨f.g.setVal hv i, f.inn, fun k s o k1 k2 => ?_, f.n0, f.h0, f.at_⟩
  rw [List.getElem?_set] at k1 k2
  by_cases h : i = k
  · subst h
    rw [if_pos rfl] at k1
    split at k1
    · cases k1
      cases o with
      | none => exact fun z => nomatch z
      | some w => cases w <;> exact fun z => nomatch z
    · cases k1
  · rw [if_neg h] at k1 k2
    exact f.no k s o k1 k2
section
variable {X : Cx} {τ : TBL} {c : Cn τ} {Wx : WX} {a b : Expr} {pos : Pos} {wa : AE} {wb : AF}
/-- a, b = a value, a new list -/
def wParVF (i j : Nat) (wa : AE) (wb : AF) (env : Env) (A : AEnds) : Prop := wa env (fun x env1 => wb env1 (fun ys env2 => A.nx ((env2.set i (.val x)).set j (.own ys))) A.ex) A.ex
theorem s_parVF {i j : Nat} {x y : Str} {px py pt : Pos} {kt k2 pt2} (hc : X.calm = true) (hN : X.N.Nodup) (hi : X.N[i]? = some x) (hj : X.N[j]? = some y) (hij : i ≠ j) (hx : X.env.scope.names.lookup x = some .local) (hy : X.env.scope.names.lookup y = some .local) (ha : PE X a (liftE c Wx wa)) (hb : PE X b (liftF c Wx wb))
    (hw : swappedStores [.Tuple [.Name x px, .Name y py] kt pt] (.Tuple [a, b] k2 pt2) X.env = pure (some [x, y])) (hs : swapsWithSole [.Tuple [.Name x px, .Name y py] kt pt] (.Tuple [a, b] k2 pt2) pos.line X.env = pure false := by rfl)
    (h1 : starEach [a, b] X.env = (false, eval a X.env) :: starEach [b] X.env := by rfl) (h2 : starEach [b] X.env = (false, eval b X.env) :: starEach [] X.env := by rfl) :
    PS X (.Assign [.Tuple [.Name x px, .Name y py] kt pt] (.Tuple [a, b] k2 pt2) pos) (liftS c Wx (wParVF i j wa wb)) := by
  refine PS.imp (fun D σ H ⟨Av, env, A, g, q, E⟩ => ?_) (ps_par hc hN hi hj hij hx hy (pa_cons ha (pa_cons hb pa_nil h2) h1) hw hs)
  refine ⟨Av, env, _, _, g, q, fun d env1 v Av1 H1 q1 g1 m1 d1 => ?_, E.ex _⟩
  refine ⟨Av1, env1, _, _, g1, q1, fun ys env2 p2 Av2 H2 q2 f2 m2 => ⟨_, _, rfl, ?_⟩, (E.ex _).mono m1⟩
  exact E.nx _ Av2 _ H2 q2 ((f2.setVal (d1.mono m2) i).toOwn j) (m1.trans m2)
/-- is not None -/
theorem opd_isNotN : OpD (fun x y H Q => y = .non ∧ Q (.bl (!decide (x = .non))) H) (isN true) := by
  intro Av H x y d1 d2 k Q hl h1 h2 ⟨e, r⟩ kk
  subst e
  cases h2
  exact ⟨rfl, by rw [none_iff h1]; exact kk _ _ H r Grow.refl (.bl _)⟩
end
end DL
set_option Elab.async false
set_option linter.all false
set_option maxRecDepth 100000
set_option maxHeartbeats 6400000
/-! a set of texts made of a list -/
namespace DLT
open PySem PySem.Spec PyProof.Rows
/-- the texts met ahead of place i, each once -/
def seen (val : Nat → Str) : Nat → List Str
  | 0 => []
  | i + 1 => if (seen val i).any (· == val i) then seen val i else seen val i ++ [val i]
theorem seen_le (val : Nat → Str) : ∀ i, (seen val i).length ≤ i
  | 0 => Nat.le_refl _
  | i + 1 => by
    have := seen_le val i
    unfold seen
    split
    · omega
    · rw [List.length_append, List.length_singleton]; omega
theorem seen_any (val : Nat → Str) (i : Nat) (x : Str) : ((seen val i).any (· == x) || decide (x = val i)) = (seen val (i + 1)).any (· == x) := by
  rw [seen]
  by_cases h : (seen val i).any (· == val i) = true
  · rw [if_pos h]
    by_cases e : x = val i
    · subst e; rw [h]; rfl
    · rw [decide_eq_false e, Bool.or_false]
  · rw [if_neg h, List.any_append]
    congr 1
    by_cases e : x = val i
    · subst e; simp
    · have : (val i == x) = false := beq_eq_false_iff_ne.mpr fun z => e z.symm
      simp [e, this]
theorem seen_len (val : Nat → Str) (i : Nat) : (if (seen val i).any (· == val i) then (seen val i).length else (seen val i).length + 1) = (seen val (i + 1)).length := by
  rw [seen]
  split <;> simp
section
variable {prog : Program} {w : World} {A : Around} {R : Result → Shared → Prop} {I : Addr} {fp wr : List Addr} {G : Array GenState → Array GenState → Prop} {n : Nat} {P : Nat → Value → Prop} {St : Nat → Shared → Prop}
theorem loop_txt (W : WalksS prog w A.in1 I fp wr G n P St) (S : Addr) (hSf : S ∉ fp) (val : Nat → Str) (hval : ∀ i v, P i v → ∃ t, v = .str (val i) t) (hb : n + 1 < scanBound) : ∀ (k i : Nat) (s : Shared), n - i = k → i ≤ n → St i s →
    s.heap.SetOf (strKind prog w) S (fun x => (seen val i).any (· == x)) (seen val i).length →
    (∀ s', Moved (S :: wr) G s s' → s'.heap.SetOf (strKind prog w) S (fun x => (seen val n).any (· == x)) (seen val n).length → R (.ok (.ret .none)) s') →
    codeAny (model prog w) A (.builtin "set.update.loop" ⟨[.ref S, .ref I], []⟩) R s := by
  have out : S ∉ wr := fun h => hSf (W.sub _ h)
  have more : ∀ b ∈ wr, b ∈ S :: wr := fun b => List.mem_cons_of_mem _
  have same : ∀ {s s' : Shared} {F : Str → Bool} {m : Nat}, Moved wr G s s' → s.heap.SetOf (strKind prog w) S F m → s'.heap.SetOf (strKind prog w) S F m := fun hm ⟨o, es, ep, t, ho, r⟩ => ⟨o, es, ep, t, hm.heap S _ out ho, r⟩
  intro k
  induction k with
  | zero =>
    intro i s hk hi st hS hR
    obtain rfl : i = n := by omega
    refine codeAny_builtin F.entry_set_update_loop ?_
    rw [Around.under_plainId F.plain_set_update_loop _]
    show wpAny _ A.in1 (pyNext (.ref I) >>= _) _ _ s
    exact wpAny_bind (W.done s _ _ st fun s' hm => wpAny_pure (hR s' (hm.mono more) (same hm hS)))
  | succ k ih =>
    intro i s hk hi st hS hR
    have lt : i < n := by omega
    refine codeAny_builtin F.entry_set_update_loop ?_
    rw [Around.under_plainId F.plain_set_update_loop _]
    show wpAny _ A.in1 (pyNext (.ref I) >>= _) _ _ s
    refine wpAny_bind (W.item i s _ _ lt st fun v s' hP st' hm => ?_)
    obtain ⟨t, rfl⟩ := hval i v hP
    have hS1 := same hm hS
    have room : (seen val i).length + 1 < scanBound := by have := seen_le val i; omega
    show wpAny _ A.in1 (holding [Value.str (val i) t] (setAdd S (.str (val i) t)) >>= _) _ _ s'
    unfold setAdd
    refine wpAny_bind (wpAny_holding (wpAny_holding (wpAny_bind ((strKind prog w).pyHash (k := val i) (strKind_is _ _ _ _) ?_))))
    refine wpAny_setAddHashed_of (knd := strKind prog w) (s := { s' with toks := s'.toks + 1 }) (strKind_is _ _ _ _) rfl hS1 room fun h' sb hS2 => ?_
    have hS3 : h'.SetOf (strKind prog w) S (fun x => (seen val (i + 1)).any (· == x)) (seen val (i + 1)).length := SetOf_congr hS2 (fun x => seen_any val i x) (seen_len val i)
    refine wpAny_pure ⟨plainId_quiet F.plain_set_update_loop _, ih (i + 1) _ (by omega) lt (W.frame _ s' _ _ st' (Nat.le_succ _) fun b hb o e => ?_) hS3 fun s2 hm2 hS4 => hR s2 (Moved.trans W.gtrans ((hm.mono more).then_heap (Nat.le_succ _) fun b o hb e => ?_) hm2) hS4⟩
    · rw [sb.2 b (fun z : b = S => hSf (by rw [← z]; exact hb))]; exact e
    · rw [sb.2 b (fun z : b = S => hb (by rw [z]; exact List.mem_cons_self))]; exact e
end
end DLT
namespace DLT
open PySem PySem.Spec PyProof.Rows
section
variable {prog : Program} {w : World} {A : Around} {E : Value → Shared → Prop} {s : Shared}
abbrev newS (led : Bool) : Obj := { cls := .type "set", dict := none, data := .set #[] 0 (.fresh 0 0 led) }
theorem set_txt {l : Addr} {items : Array Value} {xs : List Str} {Q : Value → Shared → Prop} (hh : A.handled = none) (hl : s.heap.IsList l items) (hi : StrsAre items.toList xs) (hb : items.size + 1 < scanBound)
    (h : ∀ (h' : Heap) (tk : Nat), h'.SetOf (strKind prog w) s.heap.objs.size (fun x => (seen (fun i => xs.getD i Str.empty) items.size).any (· == x)) (seen (fun i => xs.getD i Str.empty) items.size).length →
      (∀ b o, b < s.heap.objs.size → s.heap.get? b = some o → h'.get? b = some o) → Q (.ref s.heap.objs.size) { s with heap := h', toks := tk }) :
    wpAny (model prog w) A (call (.type "set") [.ref l]) Q E s := by
  have m1 := F.called_set.mro
  obtain ⟨c, tl, hmro⟩ := m1
  have hmade := F.called_set.made
  have hsub := F.called_set.sub
  have n1 := F.called_set.notType
  have n2 := F.called_set.canCreate
  have n3 := F.typeCall_set_1 (.ref l)
  refine wpAny_call (codeAny_of_tree ?_)
  show wpAny _ _ (callAny (.type "set") _) _ _ _
  refine wpAny_pure ⟨Code.quiet_builtin _ (by decide +kernel), codeAny_builtin F.entry_type_call ?_⟩
  rw [Around.under_plain (weight_type_call_type "set" [.ref l] []) rfl]
  repeat (any_goals (first | assumption | wp_step))
  refine codeAny_mono (code_set_new_1 (.ref l) (E := E) (Q₁ := fun x s1 => ∃ led : Bool, x = .ref s.heap.objs.size ∧ s1 = { s with heap := s.heap.push (newS led) }) fun led => ⟨led, rfl, rfl⟩) fun r s1 hr => ?_
  cases r with
  | error e => exact hr
  | ok fl =>
    cases fl with
    | next => exact hr.elim
    | brk => exact hr.elim
    | cont => exact hr.elim
    | ret x =>
      obtain ⟨led, rfl, rfl⟩ := hr
      have at0 : (s.heap.push (newS led)).get? s.heap.objs.size = some (newS led) := Heap.get?_push_size _ rfl
      have ty0 : Shared.TypeIs { s with heap := s.heap.push (newS led) } (.ref s.heap.objs.size) "set" := ⟨_, at0, rfl⟩
      have i1 := F.called_set.init.lookup
      have i2 := F.called_set.init.bind (.ref s.heap.objs.size)
      repeat (any_goals (first | assumption | wp_step))
      refine codeAny_mono (codeAny_call_builtin (R := wants (fun r s2 => r = .none ∧ ∃ h' tk, s2 = { s with heap := h', toks := tk } ∧
          h'.SetOf (strKind prog w) s.heap.objs.size (fun x => (seen (fun i => xs.getD i Str.empty) items.size).any (· == x)) (seen (fun i => xs.getD i Str.empty) items.size).length ∧
          ∀ b o, b < s.heap.objs.size → s.heap.get? b = some o → h'.get? b = some o) E) F.called_set.init.plain F.entry_set_init (check_set_init_1 ty0 ?body)) fun r2 s2 hr2 => ?back
      case back =>
        cases r2 with
        | error e => exact hr2
        | ok fl2 =>
          cases fl2 with
          | ret r =>
            obtain ⟨rfl, h', tk, rfl, q1, q2⟩ := hr2
            repeat (any_goals (first | assumption | wp_step))
            exact h _ _ q1 q2
          | next => exact hr2.elim
          | brk => exact hr2.elim
          | cont => exact hr2.elim
      case body =>
        obtain ⟨ol, hol, hcl, nl, hdl⟩ := hl
        obtain ⟨ocls, odict, odata, oslots⟩ := ol
        simp only at hcl hdl
        subst hcl hdl
        have lS : l < s.heap.objs.size := Heap.lt_size hol
        have hol' : (s.heap.push (newS led)).get? l = some { cls := .type "list", dict := odict, data := .seq items nl, slots := oslots } := Heap.get?_push_of_some _ hol
        have u1 := F.sub_list_set
        have u2 := F.sub_list_frozenset
        have u3 : (Value.type "list" == Value.type "dict") = false := by decide
        have ls : (s.heap.push (newS led)).IsList l items := ⟨_, hol', rfl, nl, rfl⟩
        unfold Builtin.«set.__init__» noKeywords Builtin.Frozenset.updateFrom
        generalize hPI : pyIter = PI
        wp_walk
        subst hPI
        refine wpAny_pyIter_list ls (wpAny_bind (wpAny_runValue ?_))
        have hd3 : A.in1.in1.in1.handled = none := by simp [hh]
        have sz : (s.heap.push (newS led)).objs.size = s.heap.objs.size + 1 := by rw [Heap.size_push]
        have ne1 : l ≠ (s.heap.push (newS led)).objs.size := by rw [sz]; exact Nat.ne_of_lt (Nat.lt_succ_of_lt lS)
        have ne2 : s.heap.objs.size ∉ [(s.heap.push (newS led)).objs.size, l] := by
          rw [sz]; simp only [List.mem_cons, List.not_mem_nil, or_false, not_or]; exact ⟨Nat.ne_of_lt (Nat.lt_succ_self _), Nat.ne_of_gt lS⟩
        refine loop_txt ((Walks.list hd3 _ l ne1 items).toS) s.heap.objs.size ne2 (fun i => xs.getD i Str.empty) (fun i v hv => SS.strs_at hi i v (by rw [Array.getElem?_toList]; exact hv)) hb (items.size - 0) 0 _ (by omega) (Nat.zero_le _)
          ⟨⟨_, Heap.get?_push_size _ rfl, rfl, rfl⟩, (ls.push _)⟩ ?start ?fin
        case start =>
          have g0 : ((s.heap.push (newS led)).push { cls := .type "list_iterator", data := .fields #[.ref l, .int 0 0] }).get? s.heap.objs.size = some (newS led) := Heap.get?_push_of_some _ at0
          exact SetOf_congr ((setObjOf_fresh (knd := strKind prog w) led).setOf g0 (by unfold scanBound; omega)) (fun _ => rfl) rfl
        case fin =>
          intro s3 hm q
          obtain ⟨h3, g3, d3, t3, o3⟩ := s3
          obtain rfl : g3 = s.gens := hm.gens
          obtain rfl : d3 = s.drawn := hm.drawn
          obtain rfl : o3 = s.os := hm.os
          show wpAny _ _ _ _ _ _
          refine wpAny_pure ?_
          show wpAny _ _ (ret Value.none) _ _ _
          refine wpAny_pure ⟨rfl, h3, t3, rfl, q, fun b o lt e => hm.heap b o ?_ (Heap.get?_push_of_some _ (Heap.get?_push_of_some _ e))⟩
          simp only [List.mem_cons, List.not_mem_nil, or_false, not_or]
          rw [sz]
          exact ⟨Nat.ne_of_lt lt, Nat.ne_of_lt (Nat.lt_succ_of_lt lt)⟩
end
end DLT
set_option Elab.async false
set_option linter.all false
set_option maxRecDepth 100000
set_option maxHeartbeats 4000000
namespace DL
open PySem PySem.Spec PyProof.Rows L2
/-- how many unlike texts there are -/
def dcount (xs : List Str) : Nat := (DLT.seen (fun i => xs.getD i Str.empty) xs.length).length
def tLenTxt (K : PySem.W.Frag) (ta : TE) : TE := fun σ H Q => ta σ H fun x H1 => ∃ (l : Addr) (xs : List Str), x = .ref l ∧ SqL K H1 l (xs.map V.str) ∧ xs.length ≤ 4000 ∧ Q (.int (dcount xs : Nat)) H1
section
variable {X : Cx} {τ : TBL} {c : Cn τ} {Wx : WX} {a : Expr} {p p2 q pos : Pos} {we : AE}
theorem pe_lenTxt {ta : TE} (hg : Gl X "len") (hm : X.mg "len" = none) (hg2 : Gl X "set") (hm2 : X.mg "set" = none) (ha : PE X a ta) (hc : X.calm = true)
    (na : starEach [a] X.env = (false, eval a X.env) :: starEach [] X.env := by rfl) : PE X (.Call (.Name "len" p) [.Call (.Name "set" p2) [a] [] q] [] pos) (tLenTxt X.K ta) := by
  refine ⟨fun pins s σ H Q I h => Call_ (ld_blt I hg hm boot_len (callWith_builtin1 (args_cons ?_ rfl) rfl rfl))⟩
  refine Call_ (ld_blt I hg2 hm2 boot_set (callWith_type1 (args_cons (thn (ha.run pins s σ H _ I h) fun v s1 ⟨x, H1, I1, r1, q1⟩ => args_nil ?_) na) na rfl))
  obtain ⟨l, xs, rfl, hq, hl, q1⟩ := q1
  cases r1
  obtain ⟨its, r, pl, hz⟩ := I1.list hq
  have e : its.toArray.size = xs.length := by rw [List.size_toArray, ← r.length, List.length_map]
  refine DLT.set_txt (I1.ok.hd hc) pl.isList (by simpa using L2.strsAre_of r) (by rw [e]; unfold scanBound; omega) fun h' tk hS hk => args_nil ?_
  rw [e] at hS
  obtain ⟨o, es, ep, t, ho, hex, hd, _, _, _, hf, hn⟩ := hS
  have I2 : Inv X pins σ H1 { s1 with heap := h', toks := tk } := I1.kept fun b o e => hk b o (Heap.lt_size e) e
  have le := DLT.seen_le (fun i => xs.getD i Str.empty) xs.length
  exact call_len_set ho hex hd hf (by rw [hn] <;> omega) ⟨.int (dcount xs : Nat), H1, I2.tok _, ⟨_, by rw [hn] <;> rfl⟩, q1⟩
def wLenSet (we : AE) (env : Env) (Q : D → Env → Prop) (X : AX) : Prop := we env (fun d env1 => ∃ xs : List Str, d = .lst (xs.map D.str) ∧ xs.length ≤ 4000 ∧ Q (.int (dcount xs)) env1) X
theorem a_lenSet (hg : Gl X "len") (hm : X.mg "len" = none) (hg2 : Gl X "set") (hm2 : X.mg "set" = none) (hc : X.calm = true) (ha : PE X a (liftE c Wx we)) (na : starEach [a] X.env = (false, eval a X.env) :: starEach [] X.env := by rfl) :
    PE X (.Call (.Name "len" p) [.Call (.Name "set" p2) [a] [] q] [] pos) (liftE c Wx (wLenSet we)) := PE.imp (fun σ H Q ⟨Av, env, Qa, Xa, g, q, k, x⟩ =>
      ⟨Av, env, _, Xa, g, q, fun d env1 v Av1 H1 q1 g1 m1 d1 => by
        obtain ⟨xs, rfl, hl, q1⟩ := q1
        cases d1 with
        | lst h na qs =>
          have e := qs.inj_strs
          subst e
          exact ⟨_, xs, rfl, .inl (.inl h), hl, k _ env1 _ Av1 H1 q1 g1 m1 (.int _)⟩, x⟩) (pe_lenTxt hg hm hg2 hm2 ha hc na)
end
end DL
set_option Elab.async false
set_option linter.all false
set_option maxRecDepth 100000
set_option maxHeartbeats 4000000
/-! told(lambda: ..): the answer, or the error that is kept -/
namespace DLT
open PySem PySem.Spec PyProof.Rows L2 LamX
/-- told: caught, back = None, None; try: back = look(); except E as error: caught = error; return (caught, back) -/
def TT2 (K : PySem.W.Frag) (cc : Addr) : (XK → Hp → VK → Prop) → Hp → VK → Prop := fun tl H Q => ∀ p0, H p0 = none → ∃ (E : XK) (R : VK),
  (∀ cls d H', E cls d H' → PySem.W.exmOne K cls (.ref cc) = some true ∧ ∀ a, H' a = none → ∀ p, upd H' a (DLK.ExK a cls d) p = none → Q (.ref p) (upd (upd H' a (DLK.ExK a cls d)) p (.tup [.ref a, .non]))) ∧
  (∀ v H', R v H' → ∀ p, H' p = none → Q (.ref p) (upd H' p (.tup [.non, v]))) ∧ tl E (upd H p0 (.tup [.non, .non])) R
/-! the lambda called from within the def that got it: the slots stand as they stood -/
section
variable {X : Cx} {pins : List (Addr × Obj)} {σ : L2.St} {H HZ : Hp} {s s1 : Shared} {A1 : Around} {stk : List PySem.Env}
variable {f c' : Addr} {pm ctv : Value} {params : Arguments} {body : Expr} {scope : Scope} {k : Nat} {E : XK} {Q : VK} {tb : TE}
/-- a lambda's object, what is known of it where it was made -/
structure LamO (X : Cx) (H : Hp) (s : Shared) (f c' : Addr) (pm ctv : Value) (params : Arguments) (body : Expr) (scope : Scope) : Prop where
  ob : s.heap.get? f = some (PySem.W.kla_obj "<lambda>" (X.env.qual ++ "<lambda>") params body scope (cloFrom X.env.cells scope.names []) pm c' ctv)
  nh : H f = none
  nf : f ∉ frs X.stack
/-- what the call of it comes to -/
theorem lam_run (I : Inv X pins σ H s) (L : LamS X.env.scope scope) (F : LamO X H s f c' pm ctv params body scope)
    (bd : bindArgs (PySem.W.kla_fn "<lambda>" (X.env.qual ++ "<lambda>") params body scope (cloFrom X.env.cells scope.names []) pm (.ref c') ctv) ⟨[], []⟩ = pure [])
    (un : Un (frs X.stack) [] H HZ s.heap s1.heap) (e0 : Env0 X.prog X.w X.K X.mg X.base A1 stk s1 HZ) (lim : s1.heap.NoLimit) (room : Room (k + 1) A1) (hc : HZ c' = some (CodeO c' (X.env.qual ++ "<lambda>")))
    (hb : ∀ (A : Around) (o : List PySem.Env) (s : Shared) (H : Hp), Room k (A.deeper (lamEnv X scope s.heap.objs.size f c')) → PE (lamCx X A o s H E scope f c') body tb) (q : tb σ HZ Q) :
    codeAny (model X.prog X.w) A1 (.call (.ref f) ⟨[], []⟩) (CR (L2.CX X.prog X.w) stk X.prog X.w HZ s1 Q E) s1 := by
  have o1 := un.keep f _ F.ob F.nh F.nf fun z => by cases z
  obtain ⟨⟨oc, us, t, g1, g2, g3⟩, -, -⟩ := e0.hok c' _ hc
  refine PySem.W.kla_callFunE room.depth o1 rfl L.co L.gen rfl ⟨c', oc, us, t, rfl, g1, g2, g3⟩ ?_
  rw [bd]
  refine wpAny_pure (wpAny_newFunctionEnv (fun y hy => (L.own y hy).2) (fun y hy => by cases hy) (fun hh hns hsb => ?_) L.kind)
  have up : ∀ b o, s1.heap.get? b = some o → hh.get? b = some o := fun b o e => hsb.extBut b o (Nat.ne_of_lt (Heap.lt_size e)) (Heap.get?_push_of_some _ e)
  have J : Inv (lamCx X A1 stk s1 HZ E scope f c') [] σ HZ { s1 with heap := hh, toks := s1.toks + ([] : List (Str × Value)).length } := lam_start2 I L e0 room.hd un hns up
  refine ⟨lim.fresh _ hsb, PySem.W.kla_codeExpr (wpAny_mono ((hb A1 stk s1 HZ (room.deeper _)).run [] _ _ HZ Q J q) ?_ fun _ _ z => z)⟩
  rintro u s2 ⟨v, H2, J2, rv, q2⟩
  exact ⟨v, H2, J2.os, J2.bare, J2.base, J2.hok, rv, q2⟩
end
section
variable {X : Cx} {pins : List (Addr × Obj)} {σ : L2.St} {H : Hp} {s : Shared} {f c' : Addr} {pm ctv : Value} {params : Arguments} {body : Expr} {scope : Scope} {k : Nat} {tb : XK → TE}
/-- the context of the def that got the lambda, in a try -/
abbrev gotCx (X : Cx) (s : Shared) (H : Hp) (Ng : List Str) (qg : Str) (sg : Scope) (g : Addr) (cdg : Value) : Cx := cxOf C8.CX0 X.prog X.w X.K X.mg X.base Ng qg sg g cdg X.A X.stack s H C8.E0
/-- look() there: tl of what is let out, at the slots as they stand -/
def tAct (f c' i : Nat) (q : Str) (W : WX) (tl : XK → Hp → VK → Prop) : TE := fun σZ HZ Q => σZ[i]? = some (some (.ref f)) ∧ HZ c' = some (CodeO c' q) ∧ ∃ (E : XK) (R : VK), (∀ cls d H', E cls d H' → W cls d σZ H') ∧ (∀ v H', R v H' → Q v H') ∧ tl E HZ R
theorem act2 {Ng : List Str} {qg : Str} {sg : Scope} {g : Addr} {cdg : Value} {i : Nat} {a : Str} {pn : List (Addr × Obj)} {xe : Value → Shared → Prop} {W : WX} {q1 q2 : Pos} (I : Inv X pins σ H s) (L : LamS X.env.scope scope) (F : LamO X H s f c' pm ctv params body scope)
    (bd : bindArgs (PySem.W.kla_fn "<lambda>" (X.env.qual ++ "<lambda>") params body scope (cloFrom X.env.cells scope.names []) pm (.ref c') ctv) ⟨[], []⟩ = pure []) (tk : Takes ((gotCx X s H Ng qg sg g cdg).tr pn xe) W) (room : Room (k + 1) (X.A.deeper (envOfC qg sg s.heap.objs.size g cdg)))
    (hb : ∀ (E : XK) (A : Around) (o : List PySem.Env) (s : Shared) (H : Hp), Room k (A.deeper (lamEnv X scope s.heap.objs.size f c')) → PE (lamCx X A o s H E scope f c') body (tb E))
    (hN : Ng[i]? = some a) (hv : Vis sg a) (na : (a == ("__debug__" : Str)) = false) (nb : (a == ("__classdict__" : Str)) = false) :
    PE ((gotCx X s H Ng qg sg g cdg).tr pn xe) (.Call (.Name a q1) [] [] q2) (tAct f c' i (X.env.qual ++ "<lambda>") W fun E HZ Q => tb E σ HZ Q) := by
  refine ⟨fun pz sz σz Hz Q Iz ⟨h1, h2, E, R, hE, hR, h3⟩ => wpAny_Call_Name_kw (thn ((pe_var (pos := q1) (i := i) hN hv na nb).run pz sz σz Hz (fun v H1 => v = .ref f ∧ H1 = Hz) Iz ⟨.ref f, h1, rfl, rfl⟩) ?_)⟩
  rintro u s1 ⟨v, H1, I1, r1, ev, eH⟩
  subst ev
  subst eH
  cases r1
  have un : Un (frs X.stack) [] H H1 s.heap s1.heap := I1.base
  have ob := un.keep f _ F.ob F.nh F.nf fun z => by cases z
  have rc : codeAny (model X.prog X.w) (X.A.deeper (envOfC qg sg s.heap.objs.size g cdg)) (.call (.ref f) ⟨[], []⟩) (CR (L2.CX X.prog X.w) (envOfC qg sg s.heap.objs.size g cdg :: X.stack) X.prog X.w H1 s1 R E) s1 :=
    lam_run (X := X) I L F bd un I1.env0 I1.nolimit room h2 (hb E) h3
  refine PySem.W.callWith_F0 ⟨_, _, _, _, ob⟩ (wpAny_call (codeAny_mono rc ?_))
  intro r s2 hq
  cases r with
  | error er => exact tk er s2 (XE.of_call I1 (fun cls d H' z => hE cls d H' z) hq)
  | ok fl =>
    cases fl with
    | ret u =>
      obtain ⟨v, H', c1, c2, c3, c4, c5, c6⟩ := hq
      exact I1.after ⟨v, H', c1, c2, c3, c4, c5, hR v H' c6⟩
    | next => exact False.elim hq
    | brk => exact False.elim hq
    | cont => exact False.elim hq
/-- a def that calls what it got, and what it makes of it -/
def Gives2 (X : Cx) (Ng : List Str) (x : Str) (sg : Scope) (g : Addr) (cdg : Value) (bg : List Stmt) (a q : Str) (TT : (XK → Hp → VK → Prop) → Hp → VK → Prop) : Prop :=
  ∀ (f c' : Addr) (s : Shared) (H : Hp) (Q : VK) (tl : XK → Hp → VK → Prop),
    (∀ (W : WX) (pn : List (Addr × Obj)) (xe : Value → Shared → Prop) (q1 q2 : Pos), Takes ((gotCx X s H Ng x sg g cdg).tr pn xe) W → PE ((gotCx X s H Ng x sg g cdg).tr pn xe) (.Call (.Name a q1) [] [] q2) (tAct f c' 0 q W tl)) →
    H c' = some (CodeO c' q) → TT tl H Q → ∃ t, PSs (gotCx X s H Ng x sg g cdg).nox bg t ∧ t { nx := fun _ H' => Q .non H', rt := Q } (L2.start Ng [.ref f]) H
/-- x(lambda: body) -/
theorem lamcall2 {T : List (Addr × Str)} {TT : (XK → Hp → VK → Prop) → Hp → VK → Prop} {x a : Str} {g c P : Addr} {pg : Arguments} {bg : List Stmt} {sg : Scope} {dV kV doc pmg cdv ct oc : Value} {an od : Option Addr} {osl : Array (Option Value)} {Ng : List Str} {p lpos pos : Pos}
    (hg : Gl X x) (hm : X.mg x = some (.ref g)) (hk : PySem.W.keepIn X.K (.ref g) = true) (lk : X.K.lookup g = some ⟨oc, od, .func (PySem.W.fnOf x x pg bg sg dV kV doc pmg an cdv ct), osl⟩) (hcg : PySem.W.codeIn X.K cdv x = true)
    (hbn : L2.Binds X.K (PySem.W.fnOf x x pg bg sg dV kV doc pmg an cdv ct) [a] []) (Sg : FnScope Ng [a] sg) (hNg : Ng[0]? = some a) (hva : Vis sg a) (hG : Gives2 X Ng x sg g cdv bg a (X.env.qual ++ "<lambda>") TT)
    (TB : TabB X.base X.mg c P) (hcode : X.env.code = .ref c) (hT : (P, X.env.qual ++ "<lambda>") ∈ T) (hu : ∀ p ∈ T, p.1 = P → p.2 = X.env.qual ++ "<lambda>") (room : Room (k + 2) X.A) (L : LamS X.env.scope scope) (hdf : defaultsOf params X.env = ([], []))
    (bd : ∀ (q : Str) (cl : List (Str × Addr)) (pm cv ctv : Value), bindArgs (PySem.W.kla_fn "<lambda>" q params body scope cl pm cv ctv) ⟨[], []⟩ = pure [])
    (hb : ∀ (f c' : Addr) (E : XK) (A : Around) (o : List PySem.Env) (s : Shared) (H : Hp), Room k (A.deeper (lamEnv X scope s.heap.objs.size f c')) → PE (lamCx X A o s H E scope f c') body (tb E))
    (n1 : (x == ("__debug__" : Str)) = false) (n2 : (a == ("__debug__" : Str)) = false) (n3 : (a == ("__classdict__" : Str)) = false) :
    PE X (.Call (.Name x p) [.Lambda params body scope lpos] [] pos) (tLam T TT tb) := by
  refine ⟨fun pins s σ H Q I ⟨tabs, h⟩ => wpAny_Call_Name_kw (ld_glob I hg hm (PySem.W.callWith_K (h₀ := X.base) I.ok.mod.kin hk ?_ (by rfl) (by rfl)) n1)⟩
  refine Calls.spliced_cons (lam_make2 (T := T) I TB hcode hT hu tabs hdf (L.has I.ok) fun f c' pm' ctv H1 s' I1 eN T1 hf hfn hfr hco => Calls.spliced_nil ⟨I1.kIn, ?_⟩)
  have rc : codeAny (model X.prog X.w) X.A (.call (.ref g) ⟨[.ref f], []⟩) (CR C8.CX0 X.stack X.prog X.w H1 s' Q C8.E0) s' := by
    refine run_ofS (N := Ng) (ps := [a]) (us := [.ref f]) (vs := [.ref f]) lk hcg Sg room I1.env0 (hbn s' [.ref f] I1.kIn rfl) (.cons rfl .nil) rfl fun room' => ?_
    obtain ⟨t', ht', hq'⟩ := hG f c' s' H1 Q (fun E H' Q' => tb E σ H' Q') (fun W pn xe q1 q2 tk => act2 I1 L ⟨hf, hfn, hfr⟩ (bd _ _ _ _ _) tk room' (hb f c') hNg hva n2 n3) hco (h H1 eN T1)
    exact ⟨t', ht'.nox, hq'⟩
  refine wpAny_call (codeAny_mono rc ?_)
  intro r s2 hq
  cases r with
  | error er => exact (show False from hq).elim
  | ok fl =>
    cases fl with
    | ret u => exact I1.after hq
    | next => exact False.elim hq
    | brk => exact False.elim hq
    | cont => exact False.elim hq
end
theorem sz2 : 2 ≤ sizeLine := by decide
abbrev Nt : List Str := ["look", "caught", "back", "error"]
abbrev scT : Scope := { kind := .function, names := [("look", .local), ("caught", .local), ("back", .local), ("error", .local), ("WallError", .globalImplicit)], isGenerator := false, isCoroutine := false }
theorem told_gives {x q : Str} {g cc : Addr} {cdg : Value} {X : Cx} {p1 p2 p3 p4 p5 p6 p7 p8 p9 p10 p11 p12 p13 p14 p15 p16 p17 p18 p19 p20 p21 : Pos} (hme : X.mg "WallError" = some (.ref cc))
    (hsw : ∀ L : Addr, swappedStores [.Tuple [.Name "caught" p1, .Name "back" p2] 0 p3] (.Tuple [.Constant .none 0 p4, .Constant .none 0 p5] 0 p6) (PyProof.Rows.envOfC x scT L g cdg) = pure none) :
    Gives2 X Nt x scT g cdg [
      .Assign [.Tuple [.Name "caught" p1, .Name "back" p2] 0 p3] (.Tuple [.Constant .none 0 p4, .Constant .none 0 p5] 0 p6) p7,
      .Try [.Assign [.Name "back" p8] (.Call (.Name "look" p9) [] [] p10) p11] [.ExceptHandler (some (.Name "WallError" p12)) (some "error") [.Assign [.Name "caught" p13] (.Name "error" p14) p15] p16] [] [] p17,
      .Return (some (.Tuple [.Name "caught" p18, .Name "back" p19] 0 p20)) p21] "look" q (TT2 X.K cc) := by
  intro f c' s H Q tl act hc h
  have nd : Nt.Nodup := by decide
  refine ⟨_, pss_cons (ps_asg (pe_tup (pa_cons pe_non (pa_cons pe_non pa_nil))) (pg_tup (n := 2) rfl (pgs_cons (pg_name (i := 1) nd rfl (.inl rfl)) (pgs_cons (pg_name (i := 2) nd rfl (.inl rfl)) pgs_nil))) rfl (hsw _)) (pss_cons (DLK.ps_keep (X := (gotCx X s H Nt x scT g cdg).nox) (i := 3) (j := 1) (c := .ref cc)
      (tb := fun W D σ H => tAct f c' 0 q W tl σ H fun v H' => D.nx (σ.set 2 (some v)) H')
      rfl rfl rfl nd rfl rfl rfl rfl ⟨rfl, by decide, .inl hme⟩ LamX.takes0 (by decide) (by decide) (fun _ _ => rfl) (fun W pn xe tk _ => ?_)) (pss_one (ps_ret (pe_tup (pa_cons (pv 1) (pa_cons (pv 2) pa_nil)))))), ?_⟩
  · exact pss_one (ps_set (X := (gotCx X s H Nt x scT g cdg).tr pn xe) (i := 2) (x := "back") (pos' := p8) (pos := p11) nd rfl (.inl rfl) (act W pn xe p9 p10 tk) rfl (.inl rfl))
  · refine ⟨by decide, fun p0 hp0 => ⟨p0, [.non, .non], rfl, .inl (.inl upd_same), rfl, _, _, rfl, _, _, rfl, rfl, ?_⟩⟩
    have hc' : upd H p0 (.tup [.non, .non]) c' = some (CodeO c' q) := by rw [upd_ne (ne_of_none hc hp0)]; exact hc
    obtain ⟨E, R, hE, hR, ht⟩ := h p0 hp0
    refine ⟨rfl, hc', E, R, fun cls d H' z => ?_, fun v H' z => ?_, ht⟩
    · obtain ⟨e1, e2⟩ := hE cls d H' z
      exact ⟨true, e1, fun _ a ha => ⟨_, rfl, _, rfl, sz2, fun p hp => e2 a ha p hp⟩, fun z => nomatch z⟩
    · exact ⟨_, rfl, _, rfl, sz2, fun p hp => hR v H' z p hp⟩
end DLT
namespace DL
open PySem PySem.Spec PyProof.Rows L2 LamX
/-- what the written part says of told: where it stands, its text -/
structure ToldT (K : PySem.W.Frag) (mg : Str → Option Value) (cc : Addr) : Prop where
  ex : ∃ (g : Addr) (pg : Arguments) (bg : List Stmt) (dV kV doc pm cdv ct oc : Value) (an od : Option Addr) (osl : Array (Option Value)), mg "_law_told" = some (.ref g) ∧ PySem.W.keepIn K (.ref g) = true ∧
    K.lookup g = some ⟨oc, od, .func (PySem.W.fnOf "_law_told" "_law_told" pg bg DLT.scT dV kV doc pm an cdv ct), osl⟩ ∧ PySem.W.codeIn K cdv "_law_told" = true ∧ L2.Binds K (PySem.W.fnOf "_law_told" "_law_told" pg bg DLT.scT dV kV doc pm an cdv ct) ["look"] [] ∧
    ∀ (X : Cx) (q : Str), X.K = K → X.mg = mg → DLT.Gives2 X DLT.Nt "_law_told" DLT.scT g cdv bg "look" q (DLT.TT2 K cc)
/-- the code object of a def that makes lambdas, and its table -/
structure LamT (base : Heap) (mg : Str → Option Value) (τ : TBL) (cdv : Value) (q : Str) : Prop where
  ex : ∃ c P, TabB base mg c P ∧ cdv = .ref c ∧ (P, q) ∈ τ ∧ ∀ p ∈ τ, p.1 = P → p.2 = q
def wTold (K : PySem.W.Frag) (cc : Addr) (w : AE) (env : Env) (Q : D → Env → Prop) (_ : AX) : Prop := w env (fun d env' => Q (.tup [.non, d]) env') fun C d env' => PySem.W.exmOne K (.ref C) (.ref cc) = some true ∧ Q (.tup [.err C d, .non]) env'
theorem scT_fn : FnScope DLT.Nt ["look"] DLT.scT := ⟨rfl, rfl, rfl, by decide +kernel, rfl, by decide +kernel, by decide +kernel⟩
section
variable {X : Cx} {τ : TBL} {c : Cn τ} {Wx : WX} {cc : Addr} {params : Arguments} {body : Expr} {scope : Scope} {k : Nat} {p lpos pos : Pos} {w : AE}
theorem a_told (T : ToldT X.K X.mg cc) (hg : Gl X "_law_told") (TL : LamT X.base X.mg τ X.env.code (X.env.qual ++ "<lambda>")) (room : Room (k + 2) X.A) (L : LamS X.env.scope scope) (hdf : defaultsOf params X.env = ([], []))
    (bd : ∀ (q : Str) (cl : List (Str × Addr)) (pm cv ctv : Value), bindArgs (PySem.W.kla_fn "<lambda>" q params body scope cl pm cv ctv) ⟨[], []⟩ = pure [])
    (hb : ∀ (f c' : Addr) (E : XK) (A : Around) (o : List PySem.Env) (s : Shared) (H : Hp) (c2 : Cn τ), Room k (A.deeper (lamEnv X scope s.heap.objs.size f c')) → PE (lamCx X A o s H E scope f c') body (liftE c2 (fun cls d _ H => E cls d H) w)) :
    PE X (.Call (.Name "_law_told" p) [.Lambda params body scope lpos] [] pos) (liftE c Wx (wTold X.K cc w)) := by
  obtain ⟨g, pg, bg, dV, kV, doc, pm, cdv, ct, oc, an, od, osl, hm, hk, lk, hcg, hbn, hG⟩ := T.ex
  obtain ⟨cl, P, TB, hcode, hT, hu⟩ := TL.ex
  refine PE.imp (t := tLam τ (DLT.TT2 X.K cc) fun E => liftE c (fun cls d _ H => E cls d H) w) (fun σ H Q ⟨Av, env, Qa, Xa, g0, q, k0, x⟩ => ?_)
    (DLT.lamcall2 hg hm hk lk hcg hbn scT_fn rfl (.inl rfl) (hG X _ rfl rfl) TB hcode hT hu room L hdf bd (fun f c' E A o s H r => hb f c' E A o s H c r) (by decide) (by decide) (by decide))
  refine ⟨g0.tab, fun H1 eN T1 p0 hp0 => ?_⟩
  have g1 : Good c Av σ H1 env := g0.kept (fun a o e nt => eN a o e nt) T1
  have m1 : Mono Av H Av H1 := .kept fun a o e nt => eN a o e nt
  have g2 := g1.new (ob := .tup [.non, .non]) hp0
  have m2 : Mono Av H Av (upd H1 p0 (.tup [.non, .non])) := m1.trans (Mono.new hp0)
  refine ⟨fun cls d H' => PySem.W.exmOne X.K cls (.ref cc) = some true ∧ ∀ a, H' a = none → ∀ p, upd H' a (DLK.ExK a cls d) p = none → Q (.ref p) (upd (upd H' a (DLK.ExK a cls d)) p (.tup [.ref a, .non])),
    fun v H' => ∀ p, H' p = none → Q (.ref p) (upd H' p (.tup [.non, v])), fun _ _ _ z => z, fun _ _ z => z, ?_⟩
  refine ⟨Av, env, _, _, g2, q, fun d env' v Av' H' q' g' m' d' pp hp => ?_, ?_⟩
  · refine k0 _ env' _ Av' _ q' (g'.new hp) ((m2.trans m').trans (Mono.new hp)) (.tup (.inl upd_same) (g'.notAv hp) (.cons .non (.cons (Den.mono (Mono.new hp) d') .nil)))
  · rintro C d env' Av' H' dd v ⟨e0, q'⟩ g' m' e1 e2 e3
    refine ⟨e0, fun a ha pp hp => ?_⟩
    have ne : dd ≠ a := ne_of_none e1 ha
    have mn : Mono Av' H' Av' (upd H' a (DLK.ExK a (.ref C) (some dd))) := Mono.new ha
    have g3 := g'.new (ob := DLK.ExK a (.ref C) (some dd)) ha
    have de : Den Av' (upd H' a (DLK.ExK a (.ref C) (some dd))) (.ref a) (.err C d) := .errK upd_same (by rw [upd_ne ne]; exact e1) (g'.notAv ha) e2 (Den.mono mn e3)
    exact k0 _ env' _ Av' _ q' (g3.new hp) (((m2.trans m').trans mn).trans (Mono.new hp)) (.tup (.inl upd_same) (g3.notAv hp) (.cons (Den.mono (Mono.new hp) de) (.cons .non .nil)))
end
end DL
namespace DL
open PySem PySem.Spec PyProof.Rows L2 LamX
/-- what the written part says of a def that makes lambdas -/
structure DefTL (K : PySem.W.Frag) (mg : Str → Option Value) (base : Heap) (τ : TBL) (x : Str) (st : Stmt) (ps : List Str) : Prop where
  ex : ∃ f fd, Fun K x x st f fd ∧ mg x = some (.ref f) ∧ PySem.W.keepIn K (.ref f) = true ∧ Binds K fd ps [] ∧ LamT base mg τ fd.code (x ++ ".<locals>." ++ "<lambda>")
section
variable {τ : TBL} {cal : Bool} {P : Program} {w : World} {K : PySem.W.Frag} {mg : Str → Option Value} {base : Heap} {x : Str} {st : Stmt} {N ps : List Str} {k n : Nat} {mi : Option Nat}
theorem def_EL {con : Con} (T : DefTL K mg base τ x st ps) (S : FnScope N ps (defScope st)) (hn : ps.length = n) (hN : n ≤ N.length)
    (body : ∀ (f : Addr) (cdv : Value) (A : Around) (outer : List PySem.Env) (s : Shared) (H : Hp) (E : XK) (c : Cn τ), Room k (A.deeper (PyProof.Rows.envOfC x (defScope st) s.heap.objs.size f cdv)) → CalmB cal A → LamT base mg τ cdv (x ++ ".<locals>." ++ "<lambda>") →
      ∃ W, PSs (cxOf (L2.CX P w) P w K mg base N x (defScope st) f cdv A outer s H E) (defBody st) (liftS c (fun cls d _ H' => E cls d H') W) ∧
        ∀ a ds m Qd Xd, ds.length = n → (mi = none → m = []) → con ds m Qd Xd → W (env0 N.length mi a m ds) (bodyEnds mi a m Qd Xd)) : DefE P w K mg base τ cal (k + 1) x ps n mi con := by
  obtain ⟨f, fd, F, hm, hk, hb, hL⟩ := T.ex
  exact ⟨f, fd, fn_A F S hn hN fun cdv A outer s H E c hr hG hcv => body f cdv A outer s H E c hr hG (hcv ▸ hL), hm, hk, hb⟩
end
end DL
set_option Elab.async false
set_option linter.all false
set_option maxRecDepth 100000
set_option maxHeartbeats 4000000
/-! The end of a law whose defs make lambdas: their tables are tracked from the law's call on. -/
namespace DL
open PySem PySem.Spec PyProof.Rows L2 LamX
/-- cs: code objects and their tables -/
abbrev tabH (cs : List (Addr × Addr)) (G : Hp) : Hp := fun b => if b ∈ cs.map (·.2) then some (.tbl #[]) else G b
theorem law_callT {P : Program} {w : World} {K : PySem.W.Frag} {mg mb : Str → Option Value} {k : Nat} {fa a : Addr} {cs : List (Addr × Addr)} {fd : FuncData} {x : Str} {sp : Sp} {s₁ : Shared} {vs : List Value} {ns : List Int}
    (KX : K.In s₁.heap) (hns : s₁.heap.Ns mainGlobals mg) (hb : s₁.heap.Ns builtinsNs mb) (hbb : ∀ x : Str, x ≠ "__name__" → mb x = bootBuiltins x) (hlim : s₁.heap.NoLimit) (hg : s₁.gens = #[])
    (hT : ∀ p ∈ cs, PySem.W.CodeHd s₁.heap p.1 p.2 ∧ s₁.heap.get? p.2 = some (PySem.W.tabObj #[])) (nT : ∀ p ∈ cs, K.lookup p.2 = none)
    (hbm : ∃ (bm : Addr) (ob : Obj), mg "__builtins__" = some (.ref bm) ∧ bm ≠ builtinsNs ∧ s₁.heap.get? bm = some ob ∧ ob.cls = .type "module" ∧ ob.dict = some builtinsNs ∧ ob.data = .plain)
    (ha : s₁.heap.get? a = some { cls := .type "list", data := .seq vs.toArray }) (hi : IntsAre vs ns) (hl : ns.length ≤ sizeLine) (hr : Room k callerA) (hsy : ∃ mm, s₁.heap.Ns sysModules mm)
    (F : ∀ base : Heap, K.In base → base.Ns mainGlobals mg → SysB base → (∀ p ∈ cs, TabB base mg p.1 p.2) → FnG P w K mg base true k fa fd [x] sp) (hbind : ∀ (s : Shared) (u : Value), BindsTo s fd ⟨[u], []⟩ [(x, u)])
    (hsp : ∀ H : Hp, (∀ p ∈ cs, H p.2 = some (.tbl #[])) → SqL K H a (ns.map V.int) → sp [.ref a] H (fun v _ => v = .bl true) fun _ _ _ => False) :
    codeAny (model P w) callerA (.call (.ref fa) ⟨[.ref a], []⟩) (fun r s' => r = .ok (.ret (.bool true)) ∧ OldK s₁.heap s'.heap ∧ s'.os = s₁.os ∧ AllBare s'.gens) s₁ := by
  have isT : ∀ b, b ∈ cs.map (·.2) → ∃ p ∈ cs, p.2 = b ∧ s₁.heap.get? b = some (PySem.W.tabObj #[]) := fun b hb => by
    obtain ⟨p, hp, e⟩ := List.mem_map.mp hb
    exact ⟨p, hp, e, e ▸ (hT p hp).2⟩
  have naT : a ∉ cs.map (·.2) := fun z => by
    obtain ⟨p, hp, e, q⟩ := isT a z
    rw [ha] at q
    have z' := congrArg Obj.data (Option.some.inj q)
    cases z'
  -- what is no list of this kind and no table is not tracked
  have go : ∀ G : Hp, Only G → SqL K (tabH cs G) a (ns.map V.int) → HOk P w (tabH cs G) s₁.heap → (∀ b, b ≠ a → G b = none) → (K.lookup a ≠ none → G a = none) → codeAny (model P w) callerA (.call (.ref fa) ⟨[.ref a], []⟩) (fun r s' => r = .ok (.ret (.bool true)) ∧ OldK s₁.heap s'.heap ∧ s'.os = s₁.os ∧ AllBare s'.gens) s₁ := by
    intro G hO hS hok hne hKa
    have atT : ∀ p ∈ cs, tabH cs G p.2 = some (.tbl #[]) := fun p hp => if_pos (List.mem_map.mpr ⟨p, hp, rfl⟩)
    have offT : ∀ b, b ∉ cs.map (·.2) → tabH cs G b = G b := fun b h => if_neg h
    have un_of : ∀ {b : Addr} {o : Obj}, s₁.heap.get? b = some o → (∀ xs n, o.data ≠ .seq xs n) → o ≠ PySem.W.tabObj #[] → tabH cs G b = none := fun {b o} e h1 h2 => by
      have nb : b ∉ cs.map (·.2) := fun z => by
        obtain ⟨p, hp, e1, q⟩ := isT b z
        rw [e] at q; exact h2 (Option.some.inj q)
      rw [offT b nb]
      refine hne b fun z => ?_
      rw [z, ha] at e
      cases e
      exact h1 _ _ rfl
    have nsH : ∀ {b : Addr} {m : Str → Option Value}, s₁.heap.Ns b m → (hidT s₁.heap (tabH cs G)).Ns b m := fun {b m} ⟨o, es, ep, e, d, r⟩ => ⟨o, es, ep, hidT_get e (un_of e (fun xs n z => by rw [d] at z; cases z) fun z => by rw [z] at d; cases d), d, r⟩
    have inK : K.In (hidT s₁.heap (tabH cs G)) := fun b o e => by
      refine hidT_get (KX b o e) ?_
      by_cases hb : b ∈ cs.map (·.2)
      · obtain ⟨p, hp, e1, _⟩ := isT b hb
        rw [← e1, nT p hp] at e; cases e
      · rw [offT b hb]
        by_cases h : b = a
        · subst h; exact hKa (by rw [e]; simp)
        · exact hne b h
    have TB : ∀ p ∈ cs, TabB (hidT s₁.heap (tabH cs G)) mg p.1 p.2 := fun p hp => by
      obtain ⟨C, hP⟩ := hT p hp
      refine ⟨?_, ?_, fun z => ?_⟩
      · obtain ⟨o, us, file, tf, flags, tg, inF, text, tt, e1, r1, r2, r⟩ := C
        exact ⟨o, us, file, tf, flags, tg, inF, text, tt, hidT_get e1 (un_of e1 (fun xs n z => by rw [r2] at z; cases z) fun z => by rw [z] at r1; cases r1), r1, r2, r⟩
      · obtain ⟨bm, ob, b1, b2, b3, b4, b5, b6⟩ := hbm
        refine ⟨bm, ob, b1, b2, fun z => ?_, fun z => ?_, hidT_get b3 (un_of b3 (fun xs n z => by rw [b6] at z; cases z) fun z => by rw [z] at b6; cases b6), b4, b5, b6⟩
        · obtain ⟨o, es, ep, e, d, _⟩ := hns
          rw [z, e] at b3; cases b3
          rw [d] at b6; cases b6
        · rw [z, hP] at b3; cases b3; cases b6
      · obtain ⟨o, es, ep, e, d, _⟩ := hns
        rw [z, hP] at e; cases e; cases d
    have e0 : Env0 P w K mg (hidT s₁.heap (tabH cs G)) callerA [] s₁ (tabH cs G) := ⟨rfl, ⟨inK, nsH hns, ⟨mb, nsH hb, hbb⟩, let ⟨mc, h1, h2⟩ := hlim; ⟨mc, nsH h1, h2⟩⟩, fun b o e => of_hidT e, Nat.le_of_eq (hidT_size _ _), trivial, (fun b z => nomatch z), hok, .of_eq hg⟩
    refine codeAny_mono ((F _ inK (nsH hns) (let ⟨mm, n⟩ := hsy; let ⟨o, _, _, e, _⟩ := nsH n; ⟨o, e⟩) TB).run callerA hr (fun _ => rfl) [] s₁ (tabH cs G) e0 ⟨[.ref a], []⟩ [.ref a] [.ref a] (hbind s₁ (.ref a)) (.cons rfl .nil) _ _ (hsp _ atT hS)) fun r s' h => ?_
    cases r with
    | error er =>
      obtain ⟨_, _, _, _, _, _, _, _, _, _, _, _, z⟩ := h
      exact z.elim
    | ok fl =>
      cases fl with
      | next => exact False.elim h
      | brk => exact False.elim h
      | cont => exact False.elim h
      | ret u =>
        obtain ⟨v, H', os, bare, un, hok', rv, (q : v = .bl true)⟩ := h
        subst q
        have eu : u = Value.bool true := rv
        subst eu
        have grown : ∀ b, b ∈ cs.map (·.2) → ∃ more : Array Value, s'.heap.get? b = some (PySem.W.tabObj more) := fun b hb => by
          obtain ⟨p, hp, e1, _⟩ := isT b hb
          obtain ⟨more, z⟩ := un.tbls p.2 #[] (atT p hp)
          exact ⟨_, e1 ▸ hok' p.2 _ z⟩
        have kept : ∀ b o, b ∉ cs.map (·.2) → s₁.heap.get? b = some o → s'.heap.get? b = some o := fun b o nb e => by
          rcases hO b with z | ⟨ob, xs, z⟩
          · exact un.keep b o e (by rw [offT b nb]; exact z) (fun y => nomatch y) (fun y => nomatch y)
          · have z' : tabH cs G b = some (.frz ob (.lst xs)) := by rw [offT b nb]; exact z
            have e1 := (hok b _ z').1
            have e2 := (hok' b _ (un.frzs b ob _ z')).1
            rw [e] at e1; cases e1
            exact e2
        refine ⟨rfl, ⟨fun b o e => ?_, fun b o e => ?_⟩, os, bare⟩
        · by_cases hb : b ∈ cs.map (·.2)
          · obtain ⟨p, hp, e1, eT⟩ := isT b hb
            obtain ⟨more, hm⟩ := grown b hb
            rw [eT] at e; cases e
            subst e1
            exact .inr (.inl ⟨((hT p hp).1.tab (hT p hp).2).isCodeTable, rfl, #[], more, rfl, by rw [Array.empty_append]; exact hm⟩)
          · exact .inl (kept b o hb e)
        · by_cases hb : b ∈ cs.map (·.2)
          · obtain ⟨more, hm⟩ := grown b hb
            exact ⟨_, hm⟩
          · exact ⟨o, kept b o hb e⟩
  have rv := vals_ints hi
  have okT : ∀ b u, b ∈ cs.map (·.2) → some (HO.tbl #[]) = some u → ObjOk P w (tabH cs fun _ => none) s₁.heap b u → True := fun _ _ _ _ _ => trivial
  cases hk : K.lookup a with
  | some o =>
    have e := KX a o hk
    rw [ha] at e
    cases e
    refine go (fun _ => none) (fun _ => .inl rfl) (.inr ⟨_, vs.toArray, _, hk, rfl, rfl, rfl, by rw [List.size_toArray, hi.length]; exact hl, by simpa using rv⟩) (fun b u z => ?_) (fun _ _ => rfl) fun _ => rfl
    by_cases hb : b ∈ cs.map (·.2)
    · obtain ⟨p, hp, e1, eT⟩ := isT b hb
      have z' := (if_pos hb).symm.trans z
      cases z'
      exact eT
    · have z' := (if_neg hb).symm.trans z
      cases z'
  | none =>
    refine go (fun b => if b = a then some (.frz { cls := .type "list", data := .seq vs.toArray } (.lst (ns.map V.int))) else none) (fun b => ?_) (.inl (.inr ⟨{ cls := .type "list", data := .seq vs.toArray }, (if_neg naT).trans (if_pos rfl)⟩)) (fun b u z => ?_) (fun b h => if_neg h) fun z => absurd hk z
    · by_cases h : b = a
      · exact .inr ⟨_, _, if_pos h⟩
      · exact .inl (if_neg h)
    · by_cases hb : b ∈ cs.map (·.2)
      · obtain ⟨p, hp, e1, eT⟩ := isT b hb
        have z' := (if_pos hb).symm.trans z
        cases z'
        exact eT
      · have z1 := (if_neg hb).symm.trans z
        by_cases h : b = a
        · have z' := (if_pos h).symm.trans z1
          cases z'
          subst h
          exact ⟨ha, by rw [List.length_map, ← hi.length]; rw [hi.length]; exact hl, vs, _, rv, ha⟩
        · have z' := (if_neg h).symm.trans z1
          cases z'
theorem walk_ofT {l : PySem.W.OpenLaw} {n k : Nat} {q : Program} {loose : List Str} {XP : (Str → Option Value) → Heap → Prop} {YP : World → Heap → Prop} {d : DefRec} {K : Params → PySem.W.Frag} {sp : World → Sp} {x : Str} {cs : List (Addr × Addr)}
    (hn : l.most = some n) (hn2 : n ≤ sizeLine) (hdf : d.params.defaults = []) (hr : Room k callerA) (hi : importsNone q = true) (hY : ∀ (w : World) (h : Heap), YP w h → (K w.params).In h)
    (hT : ∀ (w : World) (p : Addr × Addr), p ∈ cs → ∃ y, (recsOf q).any (fun e => e.name == y) = true ∧ PySem.W.tabIn (K w.params) y = some p ∧ (K w.params).lookup p.2 = none)
    (F : ∀ (w : World) (mg : Str → Option Value) (fa : Addr) (h : Heap), (K w.params).In h → h.Ns mainGlobals mg → mg d.name = some (.ref fa) →
      ∃ fd : FuncData, (∀ (s : Shared) (u : Value), BindsTo s fd ⟨[u], []⟩ [(x, u)]) ∧ ∀ base : Heap, (K w.params).In base → base.Ns mainGlobals mg → SysB base → (∀ p ∈ cs, TabB base mg p.1 p.2) → FnG l.prog w (K w.params) mg base true k fa fd [x] (sp w))
    (hsp : ∀ (w : World) (H : Hp) (a : Addr) (ns : List Int), ns.length ≤ n → (∀ p ∈ cs, H p.2 = some (.tbl #[])) → SqL (K w.params) H a (ns.map V.int) → sp w [.ref a] H (fun v _ => v = .bl true) fun _ _ _ => False) :
    PySem.W.WalkO q loose XP YP l.row.toRowW d [] (fun f vs => PySem.call f vs) := by
  refine Att.attach_call hn hdf fun w s₀ s₁ mg mb fa o pm cd doc a vs ns G Y ho hd hcd hmg hobj hints hlen hg => ?_
  have KX := hY w _ Y
  obtain ⟨fd, hb, hF⟩ := F w mg fa _ KX G.T.g hmg
  refine law_callT KX G.T.g G.T.b G.T.builtins G.T.nolimit hg (fun p hp => ?_) (fun p hp => (hT w p hp).choose_spec.2.2) G.T.bmain hobj hints (Nat.le_trans hlen hn2) hr (let ⟨mm, n, _⟩ := (G.T.seer hi).mods; ⟨mm, n⟩) hF hb fun H h1 hS => hsp w H a ns hlen h1 hS
  obtain ⟨y, e1, e2, _⟩ := hT w p hp
  cases hf : (recsOf q).find? (fun e => e.name == y) with
  | none => rw [List.find?_eq_none] at hf; obtain ⟨e, he, h⟩ := List.any_eq_true.mp e1; exact absurd h (hf e he)
  | some dd => exact PySem.W.tab_of G.T KX hf e2
end DL
set_option Elab.async false
set_option linter.all false
set_option maxRecDepth 100000
set_option maxHeartbeats 4000000
/-! sorted of a list of pairs of texts -/
namespace DL
open PySem PySem.Spec PyProof.Rows L2
abbrev PStr := Str × Str
/-- a pair as the sort's machine orders it -/
def pkey (p : PStr) : List (Int ⊕ List Nat) := [.inr p.1.cps.toList, .inr p.2.cps.toList]
def ltP2 (p q : PStr) : Bool := (listOrd itemOrd).blt (pkey p) (pkey q)
theorem cps_inj {a b : Str} (h : a.cps.toList = b.cps.toList) : a = b := by
  cases a; cases b
  simp only [Str.mk.injEq]
  exact Array.toList_inj.mp h
theorem pkey_inj {p q : PStr} (h : pkey p = pkey q) : p = q := by
  unfold pkey at h
  rw [List.cons.injEq, List.cons.injEq] at h
  obtain ⟨h1, h2, _⟩ := h
  exact Prod.ext (cps_inj (Sum.inr.inj h1)) (cps_inj (Sum.inr.inj h2))
theorem ltP2_total {p q : PStr} (h1 : ltP2 p q = false) (h2 : ltP2 q p = false) : p = q := pkey_inj ((listOrd itemOrd).total _ _ h1 h2)
theorem swo_ltP2 {α : Type} (k : α → PStr) : SrtO.Swo fun x y => ltP2 (k x) (k y) where
  asym := fun x y h => by
    cases e : ltP2 (k y) (k x) with
    | false => rfl
    | true =>
      have := (listOrd itemOrd).trans _ _ _ h e
      rw [(listOrd itemOrd).irrefl] at this
      cases this
  tr := fun x y z h1 h2 => by
    cases e : ltP2 (k z) (k x) with
    | false => rfl
    | true =>
      rcases (listOrd itemOrd).negTrans _ (pkey (k y)) _ e with h | h
      · rw [show ltP2 (k z) (k y) = true from h] at h2; cases h2
      · rw [show ltP2 (k y) (k x) = true from h] at h1; cases h1
/-- ascending -/
def Asc (ps : List PStr) : Prop := ps.Pairwise fun x y => ltP2 y x = false
theorem asc_uniq : ∀ {a b : List PStr}, Asc a → Asc b → a.Perm b → a = b
  | [], b, _, _, h => by rw [List.nil_perm.mp h]
  | x :: a, [], _, _, h => by have := h.length_eq; simp at this
  | x :: a, y :: b, ha, hb, h => by
    have hxy : x = y := by
      have h1 : x ∈ y :: b := h.mem_iff.mp List.mem_cons_self
      have h2 : y ∈ x :: a := h.mem_iff.mpr List.mem_cons_self
      rcases List.mem_cons.mp h1 with e | e
      · exact e
      · rcases List.mem_cons.mp h2 with e' | e'
        · exact e'.symm
        · exact ltP2_total ((List.pairwise_cons.mp hb).1 x e) ((List.pairwise_cons.mp ha).1 y e')
    subst hxy
    rw [asc_uniq (List.pairwise_cons.mp ha).2 (List.pairwise_cons.mp hb).2 (List.perm_cons _ |>.mp h)]
/-- what stands at a value, as a pair of texts -/
def IsPS (h : Heap) (v : Value) (p : PStr) : Prop := ∃ a o t u n, v = .ref a ∧ h.get? a = some o ∧ o.cls = .type "tuple" ∧ o.data = .seq #[.str p.1 t, .str p.2 u] n
theorem IsPS.up {h h' : Heap} {v : Value} {p : PStr} (x : IsPS h v p) (k : ∀ b o, h.get? b = some o → o.cls = .type "tuple" → h'.get? b = some o) : IsPS h' v p := by
  obtain ⟨a, o, t, u, n, e1, e2, e3, e4⟩ := x
  exact ⟨a, o, t, u, n, e1, k a o e2 e3, e3, e4⟩
theorem IsPS.key {h : Heap} {v : Value} {p : PStr} (x : IsPS h v p) : tupKey h (fun _ => true) v = some (pkey p) := by
  obtain ⟨a, o, t, u, n, rfl, e2, e3, e4⟩ := x
  simp [tupKey, e2, e4, tupItems, pkey]
theorem ps_firsts {h : Heap} : ∀ vs : List Value, (∀ v ∈ vs, ∃ p, IsPS h v p) → ∃ fs, TupsOf h (fun _ => true) vs fs ∧ fs.length = vs.length
  | [], _ => ⟨[], .nil, rfl⟩
  | v :: vs, hv => by
    obtain ⟨fs, h1, h2⟩ := ps_firsts vs fun u hu => hv u (List.mem_cons_of_mem _ hu)
    obtain ⟨p, a, o, t, u, n, e1, e2, e3, e4⟩ := hv v List.mem_cons_self
    exact ⟨.str p.1 t :: fs, .cons ⟨a, o, _, n, e1, e2, e3, e4, rfl, (fun z => nomatch z), fun _ => ⟨_, _, rfl⟩⟩ h1, by rw [List.length_cons, List.length_cons, h2]⟩
section
variable {prog : Program} {w : World} {A : Around} {E : Value → Shared → Prop} {s : Shared}
theorem ps_sortable {a : Addr} {vs : List Value} {k : Value → PStr} (h0 : 0 < vs.length) (hp : ∀ v ∈ vs, IsPS s.heap v (k v)) (ha : ∀ o, s.heap.get? a = some o → o.cls ≠ .type "tuple") : SrtO.SortableO prog w A s a vs fun v u => ltP2 (k v) (k u) := by
  intro h' keep
  have hp' : ∀ v ∈ vs, IsPS h' v (k v) := fun v hm => (hp v hm).up fun b o e c => keep b o (fun z => ha o (z ▸ e) c) e
  obtain ⟨fs, h1, h2⟩ := ps_firsts vs fun v hm => ⟨_, hp' v hm⟩
  refine ⟨tuples' true, fun Q E hq => tup_kind (by omega) h1 hq, fun p q h3 h4 => ?_⟩
  exact tup_ltAt (s := { s with heap := h' }) (shape := fun _ => true) (Q := fun r s' => s' = { s with heap := h' } ∧ r = ltP2 (k p.1) (k q.1)) true A _ p.1 q.1 (pkey (k p.1)) (pkey (k q.1)) (IsPS.key (hp' _ h3)) (IsPS.key (hp' _ h4)) ⟨rfl, rfl⟩
end
/-- the pair of texts that a tracked tuple holds -/
def kPS (H : Hp) : V → PStr
  | .ref t => match H t with
    | some (.tup [.str a, .str b]) => (a, b)
    | some (.frz _ (.tup [.str a, .str b])) => (a, b)
    | _ => (Str.empty, Str.empty)
  | _ => (Str.empty, Str.empty)
def rSortedPS (K : PySem.W.Frag) : List V → Hp → VK → Prop := fun vs H Q => ∃ (a : Addr) (xs : List V), vs = [.ref a] ∧ SqL K H a xs ∧ (∀ x ∈ xs, ∃ t p q, x = V.ref t ∧ Rd H t (.tup [.str p, .str q])) ∧
  ∀ ys p, ys.Perm xs → Asc (ys.map (kPS H)) → H p = none → Q (.ref p) (upd H p (.lst ys))
section
variable {X : Cx}
theorem cr_sortedPS : CallR X (.builtin "sorted") (rSortedPS X.K) := by
  intro pins s σ H vs us Q I r h
  obtain ⟨a, xs, rfl, hs, hx, q⟩ := h
  obtain ⟨its, rv, hl, hz⟩ := I.list hs
  obtain ⟨u, rfl, ru⟩ := vals1 r
  obtain rfl : u = Value.ref a := ru
  obtain ⟨e1, e2⟩ := refs_back rv fun x m => let ⟨t, _, _, e, _⟩ := hx x m; ⟨t, e⟩
  have at_ : ∀ v ∈ its, IsPS s.heap v (kPS H (backV v)) := fun v hv => by
    obtain ⟨t, rfl⟩ := e2 v hv
    obtain ⟨t', p, q, e, ht⟩ := hx _ (by rw [e1]; exact List.mem_map.mpr ⟨_, hv, rfl⟩)
    cases e
    have ek : kPS H (backV (.ref t)) = (p, q) := by
      show kPS H (.ref t) = (p, q)
      rcases ht with ht | ⟨ob, ht⟩ <;> simp [kPS, ht]
    rw [ek]
    obtain ⟨its2, r2, o, ho, hc, n, hd⟩ : ∃ its2, Vals [V.str p, V.str q] its2 ∧ ∃ o, s.heap.get? t = some o ∧ o.cls = .type "tuple" ∧ ∃ n, o.data = .seq its2.toArray n := by
      obtain ⟨its2, r2, h3, _⟩ := I.tuple (show SqT X.K H t _ from .inl ht)
      obtain ⟨o, h4, h5, n, h6⟩ := h3
      exact ⟨its2, r2, o, h4, h5, n, h6⟩
    obtain ⟨u1, u2, rfl, ri, rj⟩ := vals2 r2
    obtain ⟨t1, rfl⟩ := ri
    obtain ⟨t2, rfl⟩ := rj
    exact ⟨t, o, t1, t2, n, rfl, ho, hc, hd⟩
  refine SrtO.sorted_ord (ltv := fun v u => ltP2 (kPS H (backV v)) (kPS H (backV u))) (swo_ltP2 _) hl.isList (by rw [← rv.length]; exact hz) (fun h2 h₁ b hb kk => ?_) fun out h1 h2 => ?_
  · refine ps_sortable (s := { s with heap := h₁ }) (k := fun v => kPS H (backV v)) (by omega) (fun v hm => (at_ v hm).up fun c o e _ => (kk c o e).2) fun o e => ?_
    have e' := e.symm.trans hb
    cases e'
    exact fun c => absurd (Value.type.inj c) (by decide)
  · have h3 : ∀ u ∈ out, ∃ a, u = Value.ref a := fun u hu => e2 u (h2.perm.mem_iff.mp hu)
    obtain ⟨n, hn⟩ := sortedAll_at s.heap its out.toArray
    have kp : ∀ b o, s.heap.get? b = some o → (sortedAll s.heap its out.toArray).get? b = some o := fun b o e => sortedAll_old e
    have hp : (out.map backV).Perm xs := by rw [e1]; exact h2.perm.map _
    refine ⟨.ref (s.heap.objs.size + 1), upd H (s.heap.objs.size + 1) (.lst (out.map backV)), I.laid (t' := s.toks) kp (Nat.le_succ _) ⟨?_, out, n, vals_back h3, hn⟩, rfl, q _ _ hp ?_ (I.hok.fresh (Nat.le_succ _))⟩
    · rw [hp.length_eq]
      exact hz
    · unfold Asc
      rw [List.map_map]
      exact List.pairwise_map.mpr h1
end
/-- pairs of texts as values -/
abbrev D2 (p : PStr) : D := .tup [.str p.1, .str p.2]
theorem den_ps {Av : AvS} {H : Hp} {v : V} {p : PStr} (h : Den Av H v (D2 p)) : (∃ t, v = .ref t ∧ Rd H t (.tup [.str p.1, .str p.2])) ∧ kPS H v = p := by
  cases h with
  | tup e na ds =>
    cases ds with
    | cons d1 d2 =>
      cases d2 with
      | cons d2 d3 =>
        cases d3
        cases d1
        cases d2
        refine ⟨⟨_, rfl, e⟩, ?_⟩
        rcases e with e | ⟨ob, e⟩ <;> simp [kPS, e]
theorem dens_ps {Av : AvS} {H : Hp} : ∀ {vs : List V} {ps : List PStr}, Dens Av H vs (ps.map D2) → (∀ v ∈ vs, Den Av H v (D2 (kPS H v)) ∧ ∃ t p q, v = .ref t ∧ Rd H t (.tup [.str p, .str q])) ∧ vs.map (kPS H) = ps
  | _, [], .nil => ⟨(fun _ h => nomatch h), rfl⟩
  | _, p :: ps, .cons h t => by
    obtain ⟨h1, h2⟩ := dens_ps t
    obtain ⟨⟨a, e1, e2⟩, e3⟩ := den_ps h
    refine ⟨fun v hv => ?_, by rw [List.map_cons, h2, e3]⟩
    rcases List.mem_cons.mp hv with rfl | hv
    · exact ⟨by rw [e3]; exact h, a, _, _, e1, e2⟩
    · exact h1 v hv
theorem dens_of_all {Av : AvS} {H : Hp} : ∀ vs : List V, (∀ v ∈ vs, Den Av H v (D2 (kPS H v))) → Dens Av H vs ((vs.map (kPS H)).map D2)
  | [], _ => .nil
  | v :: vs, h => .cons (h v List.mem_cons_self) (dens_of_all vs fun u hu => h u (List.mem_cons_of_mem _ hu))
def sortF : RF := fun ds k => ∃ ps : List PStr, ds = [.lst (ps.map D2)] ∧ ∀ qs : List PStr, qs.Perm ps → Asc qs → k (qs.map D2)
theorem callf_sorted {K : PySem.W.Frag} : CallF (rSortedPS K) sortF := by
  rintro Av H xs ds k Q hl hd ⟨ps, rfl, hr⟩ kk
  cases hd with
  | cons h t =>
    cases t
    cases h with
    | lst h na q =>
      obtain ⟨h1, h2⟩ := dens_ps q
      refine ⟨_, _, rfl, .inl (.inl h), fun v hv => (h1 v hv).2, fun ys p hp hs hn => kk _ ys p (hr _ ?_ hs) hn (dens_of_all ys fun v hv => (h1 v (hp.mem_iff.mp hv)).1)⟩
      rw [← h2]
      exact hp.map _
end DL
set_option Elab.async false
set_option linter.all false
set_option maxRecDepth 100000
set_option maxHeartbeats 4000000
/-! tuple(a dict) -/
namespace DLK
open PySem PySem.Spec PyProof.Rows L2 PySem.W
section
variable {prog : Program} {w : World} {A : Around} {E : Value → Shared → Prop} {s : Shared} {T : String} {r d : Addr} {n : Nat} {P : Nat → Value → Prop} {OK : Heap → Prop}
theorem collect_src {Q : List Value → Shared → Prop} (K : KdlSrc prog w T r d n P OK) (hh : A.handled = none) (hok : OK s.heap) (hn : n ≤ sizeLine)
    (hQ : ∀ (h' : Heap) (tk : Nat) (acc : Array Value), (∀ b o, s.heap.get? b = some o → h'.get? b = some o) → ItemsOf P acc n → Q acc.toList { s with heap := h', toks := tk }) : wpAny (model prog w) A (collect (.ref r)) Q E s := by
  have lt := K.there _ hok
  unfold collect
  refine wpAny_bind (wpAny_runValue (codeAny_builtin F.entry_proto_collect ?_))
  rw [Around.under_plainId F.plain_proto_collect _]
  show wpAny _ A.in1 (newList [] >>= fun l' => again (.builtin "list.__iadd__" ⟨[l', .ref r], []⟩)) _ _ s
  refine wpAny_bind (wpAny_newObj_type (wpAny_pure ⟨plainId_quiet F.plain_list_iadd _, codeAny_builtin F.entry_list_iadd ?_⟩))
  rw [Around.under_plainId F.plain_list_iadd _]
  have new : (s.heap.push { cls := .type "list", data := .seq ([] : List Value).toArray }).get? s.heap.objs.size = some { cls := .type "list", data := .seq ([] : List Value).toArray } := Heap.get?_push_size _ rfl
  show wpAny _ A.in1 (Builtin.List.listExtendWith (.ref s.heap.objs.size) (.ref r) (.ref s.heap.objs.size)) _ _ _
  let R : Result → Shared → Prop := fun r s' => match r with
    | .ok (.ret v) => wpAny (model prog w) A (match v with
      | .ref a => do match (← load a).data with
        | .seq xs _ => pure xs.toList
        | _ => unsupported "internal:collect"
      | _ => unsupported "internal:collect") Q E s'
    | .ok _ => False
    | .error e => E e s'
  refine kdl_extend (R := R) (s := { s with heap := s.heap.push { cls := .type "list", data := .seq ([] : List Value).toArray } }) K hh (K.keep _ _ hok fun b _ o e => Heap.get?_push_of_some _ e) s.heap.objs.size (Nat.ne_of_gt lt.1) (Nat.ne_of_gt lt.2) _ _ new (fun h' tk acc c' hk hS hacc => ?_) hn
  show wpAny _ A (load s.heap.objs.size >>= _) _ _ _
  refine wpAny_bind (wpAny_load hS (wpAny_pure ?_))
  exact hQ h' tk acc (fun b o e => hk b o (Nat.ne_of_lt (Heap.lt_size e)) (Heap.get?_push_of_some _ e)) hacc
theorem tuple_new_dict {Q₁ : Value → Shared → Prop} (K : KdlSrc prog w "dict" r d n P OK) (hh : A.handled = none) (hok : OK s.heap) (hn : n ≤ sizeLine)
    (h : ∀ (h' : Heap) (tk : Nat) (acc : Array Value), (∀ b o, s.heap.get? b = some o → h'.get? b = some o) → ItemsOf P acc n → Q₁ (.ref h'.objs.size) { s with heap := h'.push { cls := .type "tuple", data := .seq acc }, toks := tk }) :
    codeAny (model prog w) A (.call (.builtin "tuple.__new__") ⟨[.type "tuple", .ref r], []⟩) (wants Q₁ E) s := by
  refine codeAny_of_tree ?_
  show wpAny _ A.in1 (do checkBuiltinCall "tuple.__new__" ⟨[.type "tuple", .ref r], []⟩; again (.builtin "tuple.__new__" ⟨[.type "tuple", .ref r], []⟩)) _ _ s
  refine wpAny_bind (wpAny_of_eq (F.newCall_tuple_1 _) (wpAny_pure ⟨plainId_quiet F.plain_tuple_new _, codeAny_builtin F.entry_tuple_new ?_⟩))
  rw [Around.under_plainId F.plain_tuple_new _]
  have q1 := sub_tuple_self
  have q2 := init_tuple_lookup
  have q3 := madeHere_tuple
  have q4 : s.TypeIs (.ref r) "dict" := K.type s hok
  have q5 : A.in1.handled = none := hh
  wp_walk using wpAny_typeOf q4, collect_src (A := A.in1) K q5 hok hn
  intro h' tk acc hk hacc
  show wpAny _ _ (Builtin.Tuple.tupleExact acc.toList.toArray >>= fun v => ret v) _ _ _
  unfold Builtin.Tuple.tupleExact
  rw [show acc.toList.toArray = acc by simp]
  exact wpAny_bind (wpAny_newObj_type (wpAny_pure (h h' tk acc hk hacc)) (by show acc.size ≤ sizeLine; rw [hacc.1]; exact hn))
theorem call_tuple_dict {Q : Value → Shared → Prop} (K : KdlSrc prog w "dict" r d n P OK) (hh : A.handled = none) (hok : OK s.heap) (hn : n ≤ sizeLine)
    (hQ : ∀ (h' : Heap) (tk : Nat) (acc : Array Value), (∀ b o, s.heap.get? b = some o → h'.get? b = some o) → ItemsOf P acc n → Q (.ref h'.objs.size) { s with heap := h'.push { cls := .type "tuple", data := .seq acc }, toks := tk }) :
    wpAny (model prog w) A (call (.type "tuple") [.ref r]) Q E s := by
  refine callType_codes (Q₁ := fun obj s₁ => s₁.TypeIs obj "tuple" ∧ Q obj s₁) F.called_tuple (F.typeCall_tuple_1 _) F.entry_object_init (tuple_new_dict (A := A.in1) K hh hok hn fun h' tk acc hk hacc => ⟨⟨_, Heap.get?_push_size _ rfl, rfl⟩, hQ h' tk acc hk hacc⟩) ?_
  intro obj s₁ h₁
  exact ⟨h₁.1, F.args_object_init_2 obj _, object_init_meets F.called_tuple.init.lookup F.called_tuple.made (by decide) prog w A.in1 _ s₁ ⟨h₁.1, rfl, h₁.2⟩⟩
end
end DLK
namespace DL
open PySem PySem.Spec PyProof.Rows L2
section
variable {X : Cx}
theorem call_tupleD (hc : X.calm = true) : CallR X (.type "tuple") (fun xs H Q => ∃ (a : Addr) (kvs : List (Key × V)), xs = [.ref a] ∧ Rd H a (.dK kvs) ∧ ∀ p, H p = none → Q (.ref p) (upd H p (.tup (kvs.map fun kv => kV kv.1)))) := by
  intro pins s σ H xs us Q I r ⟨a, kvs, ex, hd, q⟩
  subst ex
  obtain ⟨u, rfl, rx⟩ := vals1 r
  cases rx
  obtain ⟨z, lo, vs, rel, dd⟩ := dk_rd I.hok hd
  obtain ⟨ep, at_⟩ := dd.dictAt
  have ek : (kvs.map fun kv => kV kv.1) = vs.map fun p => kV p.1 := by
    have e := congrArg (List.map kV) rel.keys
    rw [List.map_map, List.map_map] at e
    exact e
  refine DLK.call_tuple_dict (PySem.W.kdl_dict (knd := mixKind X.prog X.w) (kvs := vs) (ep := ep) lo) (I.ok.hd hc) at_ (by rw [← rel.length]; exact z) fun h' tk acc hk hacc => ?_
  have hv : Vals (vs.map fun p => kV p.1) acc.toList := keys_at (by rw [Array.length_toList]; exact hacc.1) fun j v e => hacc.2 j v (by rw [← Array.getElem?_toList]; exact e)
  have I1 : Inv X pins σ H { s with heap := h', toks := tk } := I.kept (t' := tk) hk
  refine ⟨.ref h'.objs.size, upd H h'.objs.size (.tup (kvs.map fun kv => kV kv.1)), I1.laid (t' := tk) (fun b o e => Heap.get?_push_of_some _ e) (Nat.le_refl _) ?_, rfl, q _ (I1.hok.fresh (Nat.le_refl _))⟩
  exact ⟨by rw [List.length_map]; exact z, acc.toList, by rw [ek]; exact hv, by rw [Array.toArray_toList]; exact IsTup.new _ _⟩
end
theorem keys_den {Av : AvS} {H : Hp} : ∀ {kvs : List (Key × V)} {ks : List Str}, kvs.map (·.1) = ks.map Sum.inr → Dens Av H (kvs.map fun kv => kV kv.1) (ks.map D.str)
  | [], [], _ => .nil
  | kv :: kvs, k :: ks, e => by
    rw [List.map_cons, List.map_cons, List.cons.injEq] at e
    rw [List.map_cons, List.map_cons, e.1]
    exact .cons (.str k) (keys_den e.2)
  | [], _ :: _, e => by simp at e
  | _ :: _, [], e => by simp at e
/-- tuple of a dict with texts as keys: the keys -/
def tupDC : RC := fun ds k => ∃ (ks : List Str) (es : List D), ds = [.dic (ks.map Sum.inr) es] ∧ k (.tup (ks.map D.str))
theorem calld_tupD : CallD (fun xs H Q => ∃ (a : Addr) (kvs : List (Key × V)), xs = [.ref a] ∧ Rd H a (.dK kvs) ∧ ∀ p, H p = none → Q (.ref p) (upd H p (.tup (kvs.map fun kv => kV kv.1)))) tupDC := by
  rintro Av H xs ds k Q hl hd ⟨ks, es, rfl, hr⟩ kk
  cases hd with
  | cons h t =>
    cases t
    generalize e : (ks.map Sum.inr : List Key) = kk0 at h
    cases h with
    | dic h na q => exact ⟨_, _, rfl, .inl h, fun p hp => kk _ _ _ hr (keepNew hp) (.tup (.inl upd_same) (fun z => nosol hp (hl p z)) ((keys_den e.symm).mono (Mono.new hp)))⟩
end DL
set_option Elab.async false
set_option linter.all false
set_option maxRecDepth 100000
set_option maxHeartbeats 4000000
/-! x in xs, xs a list that may change: it stays one -/
namespace DL
open PySem PySem.Spec PyProof.Rows L2
def wInM (i : Nat) (R : R2D) (wa : AE) (env : Env) (Q : D → Env → Prop) (X : AX) : Prop := wa env (fun x env1 => ∃ s ds, env1[i]? = some s ∧ mutOf s = some ds ∧ R x (.lst ds) fun z => (∃ b, z = .bl b) ∧ Q z env1) X
section
variable {X : Cx} {τ : TBL} {c : Cn τ} {Wx : WX} {a : Expr} {pos p : Pos} {x : Str} {wa : AE} {i : Nat}
theorem a_inM {op : CmpOp} {R : R2D} (ho : OpR X (compareOp op) (rD R)) (ha : PE X a (liftE c Wx wa)) (hp : PE X (.Name x p) (tVar i)) (hm : behindInMarks op (.Name x p) = false := by rfl) : PE X (.Compare a [op] [.Name x p] pos) (liftE c Wx (wInM i R wa)) := PE.imp (fun σ H Q ⟨Av, env, Qa, Xa, g, q, k, xx⟩ =>
  ⟨Av, env, _, Xa, g, q, fun d env1 v Av1 H1 q1 g1 m1 d1 => by
    obtain ⟨s, ds, e1, e2, q1⟩ := q1
    obtain ⟨b, vs, e3, av, e4, dn, _⟩ := g1.mutAt e1 e2
    have ms : Mono Av1 H1 (rem Av1 b) H1 := Mono.shrink fun z h => h.1
    refine ⟨_, e3, rem Av1 b, d, .lst ds, _, fun z hz => g1.live z hz.1, d1.mono ms, .lst e4 (fun z => z.2 rfl) (dn.mono ms), q1, fun z u H2 qz gr dz => ?_⟩
    obtain ⟨⟨bb, rfl⟩, qz⟩ := qz
    cases dz
    exact k _ env1 _ Av1 H2 qz (g1.grow gr) (m1.trans (Mono.grow gr)) (.bl bb), xx⟩) (pe_cmpR ho ha hp hm)
end
end DL
set_option Elab.async false
set_option linter.all false
set_option maxRecDepth 100000
set_option maxHeartbeats 4000000
/-! What the books' functions tell, as functions; what is known of texts. -/
namespace WB
open PySem PySem.Spec PyProof.Rows L2 DL TL
/-! ### texts -/
/-- a text of signs, not too long -/
structure Tx (s : Str) : Prop where
  ok : PyData.strOk s = true
  le : s.length ≤ 10000
theorem tl_len (s : Str) : (tl s).length = s.length := by simp [tl, Str.length]
theorem ok_iff {s : Str} : PyData.strOk s = true ↔ ∀ c ∈ tl s, c < 0x110000 := by
  unfold PyData.strOk
  rw [Array.all_eq_true_iff_forall_mem]
  simp
theorem part_join : ∀ (parts : List (List Nat)) (S p : List Nat), p ∈ parts → (∀ c ∈ p, c ∈ joinL S parts) ∧ p.length ≤ (joinL S parts).length
  | [], _, _, h => nomatch h
  | [q], S, p, h => by
    have e : p = q := by simpa using h
    subst e
    exact ⟨fun c hc => hc, Nat.le_refl _⟩
  | q :: r :: rest, S, p, h => by
    rcases List.mem_cons.mp h with rfl | h
    · exact ⟨fun c hc => by simp [joinL, hc], by simp [joinL]⟩
    · obtain ⟨h1, h2⟩ := part_join (r :: rest) S p h
      exact ⟨fun c hc => by simp [joinL, h1 c hc], by simp [joinL]; omega⟩
/-- the pieces of a text -/
theorem Tx.parts {s y : Str} (h : Tx s) : ∀ p ∈ Txt.split s y, Tx p := fun p hp => by
  have e := StrLaws.join_split s y
  have e2 : tl s = joinL (tl y) ((Txt.split s y).map tl) := by rw [← tl_join, e]
  obtain ⟨h1, h2⟩ := part_join _ (tl y) (tl p) (List.mem_map.mpr ⟨p, hp, rfl⟩)
  rw [← e2] at h1 h2
  refine ⟨ok_iff.mpr fun c hc => ok_iff.mp h.ok c (h1 c hc), ?_⟩
  rw [tl_len, tl_len] at h2
  exact Nat.le_trans h2 h.le
theorem len_split_le {parts : List (List Nat)} {S : List Nat} (hS : 1 ≤ S.length) : parts.length ≤ (joinL S parts).length + 1 := by
  induction parts with
  | nil => simp
  | cons q r ih =>
    cases r with
    | nil => simp
    | cons x rest =>
      simp only [joinL, List.length_append, List.length_cons] at ih ⊢
      omega
theorem split_count {s y : Str} (hy : 1 ≤ y.length) : (Txt.split s y).length ≤ s.length + 1 := by
  have e := StrLaws.join_split s y
  have e2 : tl s = joinL (tl y) ((Txt.split s y).map tl) := by rw [← tl_join, e]
  have := len_split_le (parts := (Txt.split s y).map tl) (S := tl y) (by rw [tl_len]; exact hy)
  rw [← e2, List.length_map, tl_len] at this
  exact this
theorem split_ne (s y : Str) : Txt.split s y ≠ [] := fun h => by
  unfold Txt.split at h
  split at h
  · cases h
  · split at h
    · cases h
    · unfold Builtin.Str.partsBetween at h
      simp at h
theorem sl_big {n : Nat} (h : n ≤ 100000) : n ≤ sizeLine := by rw [sizeLine_eq]; omega
/-! ### comparing texts -/
theorem pys_strs : ∀ ms : List Str, pys (ms.map D.str) = some (ms.map PyData.str)
  | [] => rfl
  | m :: ms => by rw [List.map_cons, List.map_cons, pys, D.py, pys_strs ms]
theorem lay_strs : ∀ {ms : List Str}, (∀ m ∈ ms, PyData.strOk m = true) → PyData.canLayAll0 (ms.map PyData.str) = true
  | [], _ => rfl
  | m :: ms, h => by
    rw [List.map_cons, PyData.canLayAll0, lay_strs fun x hx => h x (List.mem_cons_of_mem _ hx), PyData.canLay0, h m List.mem_cons_self]
    rfl
theorem depth_strs : ∀ ms : List Str, PyData.depthAll (ms.map PyData.str) = 0
  | [] => rfl
  | m :: ms => by rw [List.map_cons, PyData.depthAll, depth_strs ms, PyData.depth]; rfl
theorem shaped_str {s : Str} (h : PyData.strOk s = true) : SeqAt.shaped (.str s) = true := by simp [SeqAt.shaped, PyData.canLay0, PyData.depth, h]
theorem shaped_strs {ms : List Str} (h : ∀ m ∈ ms, PyData.strOk m = true) : SeqAt.shaped (.tuple (ms.map .str)) = true := by
  simp [SeqAt.shaped, PyData.canLay0, PyData.depth, lay_strs h, depth_strs]
theorem any_eqv (ms : List Str) (c : Str) : ((ms.map PyData.str).any fun z => PyData.eqv z (.str c)) = ms.contains c := by
  induction ms with
  | nil => rfl
  | cons m ms ih =>
    rw [List.map_cons, List.any_cons, ih, List.contains_cons]
    congr 1
    show (m == c) = (c == m)
    exact Bool.eq_iff_iff.mpr ⟨fun h => by simp at h ⊢; exact h.symm, fun h => by simp at h ⊢; exact h.symm⟩
theorem inP_strs {neg : Bool} {c : Str} {ms : List Str} {y : D} {k : D → Prop} (hy : y = .lst (ms.map D.str) ∨ y = .tup (ms.map D.str)) (hc : PyData.strOk c = true) (hm : ∀ m ∈ ms, PyData.strOk m = true) (q : k (.bl (if neg then !ms.contains c else ms.contains c))) : inP neg (.str c) y k :=
  ⟨_, _, _, hy, rfl, pys_strs ms, shaped_str hc, lay_strs hm, by rw [any_eqv]; exact q⟩
theorem eqvAll_strs : ∀ a b : List Str, PyData.eqvAll (a.map .str) (b.map .str) = decide (a = b)
  | [], [] => by simp [PyData.eqvAll]
  | [], _ :: _ => by simp [PyData.eqvAll]
  | _ :: _, [] => by simp [PyData.eqvAll]
  | x :: a, y :: b => by
    rw [List.map_cons, List.map_cons, PyData.eqvAll, eqvAll_strs a b]
    show (x == y && decide (a = b)) = _
    by_cases h : x = y <;> by_cases h2 : a = b <;> simp [h, h2]
theorem eqD_strs {neg : Bool} {a b : List Str} {k : D → Prop} (ha : ∀ m ∈ a, PyData.strOk m = true) (hb : ∀ m ∈ b, PyData.strOk m = true) (q : k (.bl (if neg then !decide (a = b) else decide (a = b)))) : eqD neg (.tup (a.map D.str)) (.tup (b.map D.str)) k := by
  refine ⟨_, _, by rw [D.py, pys_strs]; rfl, by rw [D.py, pys_strs]; rfl, by rw [shaped_strs ha, shaped_strs hb]; rfl, ?_⟩
  rw [show PyData.eqv (.tuple (a.map .str)) (.tuple (b.map .str)) = decide (a = b) from eqvAll_strs a b]
  exact q
theorem eqD_str2 {neg : Bool} {a b : Str} {k : D → Prop} (ha : PyData.strOk a = true) (hb : PyData.strOk b = true) (q : k (.bl (if neg then !decide (a = b) else decide (a = b)))) : eqD neg (.str a) (.str b) k := by
  refine ⟨_, _, rfl, rfl, by rw [shaped_str ha, shaped_str hb]; rfl, ?_⟩
  have e : PyData.eqv (.str a) (.str b) = decide (a = b) := by
    show (a == b) = _
    by_cases h : a = b <;> simp [h]
  rw [e]
  exact q
theorem pys_d2 : ∀ ps : List PStr, pys (ps.map D2) = some (ps.map fun p => .tuple [.str p.1, .str p.2])
  | [] => rfl
  | p :: ps => by rw [List.map_cons, List.map_cons, pys, D.py, pys_d2 ps]; rfl
theorem inP_pairs {neg : Bool} {c : PStr} {ms : List PStr} {y : D} {k : D → Prop} (hy : y = .lst (ms.map D2) ∨ y = .tup (ms.map D2)) (hc : PyData.strOk c.1 = true ∧ PyData.strOk c.2 = true) (hm : ∀ m ∈ ms, PyData.strOk m.1 = true ∧ PyData.strOk m.2 = true) (q : k (.bl (if neg then !decide (c ∈ ms) else decide (c ∈ ms)))) : inP neg (D2 c) y k := by
  refine ⟨_, .tuple [.str c.1, .str c.2], _, hy, rfl, pys_d2 ms, ?_, ?_, ?_⟩
  · simp [SeqAt.shaped, PyData.canLay0, PyData.canLayAll0, PyData.depth, PyData.depthAll, hc.1, hc.2]
  · clear q hy
    induction ms with
    | nil => rfl
    | cons m ms ih =>
      have h := hm m List.mem_cons_self
      rw [List.map_cons, PyData.canLayAll0, ih fun x hx => hm x (List.mem_cons_of_mem _ hx)]
      simp [PyData.canLay0, PyData.canLayAll0, h.1, h.2]
  · have e : ((ms.map fun p => PyData.tuple [.str p.1, .str p.2]).any fun z => PyData.eqv z (.tuple [.str c.1, .str c.2])) = decide (c ∈ ms) := by
      clear q hy hm
      induction ms with
      | nil => rfl
      | cons m ms ih =>
        rw [List.map_cons, List.any_cons, ih]
        have e2 : PyData.eqv (.tuple [.str m.1, .str m.2]) (.tuple [.str c.1, .str c.2]) = decide (c = m) := by
          show (m.1 == c.1 && (m.2 == c.2 && true)) = _
          by_cases h : c = m
          · subst h; simp
          · have : ¬ (m.1 = c.1 ∧ m.2 = c.2) := fun z => h (Prod.ext z.1.symm z.2.symm)
            by_cases h1 : m.1 = c.1 <;> by_cases h2 : m.2 = c.2 <;> simp [h, h1, h2] at this ⊢
        rw [e2]
        by_cases h : c = m <;> simp [h]
    rw [e]
    exact q
/-! ### reading a book -/
def sp : Str := " "
def nl : Str := "\n"
def words (l : Str) : List Str := Txt.split l sp
def isName (w : Str) : Bool := decide (w.length ≤ 8) && (Txt.isascii w && (Txt.isalpha w && Txt.islower w))
def areNames (ws : List Str) : Bool := ws.all isName && decide (dcount ws = ws.length)
def inSeq (cl ms : List Str) : List Str := cl.filter fun c => ms.contains c
/-- the words of a line behind its first word -/
def behind (lines : List Str) (i : Nat) (first : Str) : Except Nat (List Str) :=
  match lines[i]? with
  | none => .error (i + 1)
  | some l => match words l with
    | [] => .error (i + 1)
    | w :: ws => if w = first then .ok ws else .error (i + 1)
def readLot (cl lines : List Str) (i : Nat) (first : Str) : Except Nat (List Str) :=
  match behind lines i first with
  | .error n => .error n
  | .ok ws => if ws = inSeq cl ws then .ok ws else .error (i + 1)
def readClients (lines : List Str) : Except Nat (List Str) :=
  match behind lines 0 "clients" with
  | .error n => .error n
  | .ok ns => if 2 ≤ ns.length ∧ ns.length ≤ 8 ∧ areNames ns = true then .ok ns else .error 1
/-- the lines of rivals from the i-th line on -/
def readRivals (cl : List Str) : List Str → Nat → List PStr → Except Nat (List PStr)
  | [], _, ps => .ok ps
  | l :: r, i, ps => match words l with
    | w :: ws => if w = "rivals" then
        match ws, inSeq cl ws with
        | [_, _], [a, b] => if (a, b) ∈ ps then .error (i + 1) else readRivals cl r (i + 1) (ps ++ [(a, b)])
        | _, _ => .error (i + 1)
      else .ok ps
    | [] => .ok ps
theorem rr_no {cl : List Str} {l : Str} {r : List Str} {i : Nat} {ps : List PStr} {w : Str} {ws : List Str} (hw : words l = w :: ws) (h : w ≠ "rivals") : readRivals cl (l :: r) i ps = .ok ps := by
  rw [readRivals, hw]
  exact if_neg h
theorem rr_bad {cl : List Str} {l : Str} {r : List Str} {i : Nat} {ps : List PStr} {ws : List Str} (hw : words l = Str.ofString "rivals" :: ws) (h : ∀ x y a b, ws = [x, y] → inSeq cl ws = [a, b] → (a, b) ∈ ps) : readRivals cl (l :: r) i ps = .error (i + 1) := by
  rw [readRivals, hw]
  simp only [if_true]
  split
  · rename_i a b h2
    exact if_pos (h _ _ a b rfl h2)
  · rfl
theorem rr_one {cl : List Str} {l : Str} {r : List Str} {i : Nat} {ps : List PStr} {x y a b : Str} (hw : words l = [Str.ofString "rivals", x, y]) (h2 : inSeq cl [x, y] = [a, b]) (h : (a, b) ∉ ps) : readRivals cl (l :: r) i ps = readRivals cl r (i + 1) (ps ++ [(a, b)]) := by
  rw [readRivals, hw]
  simp only [if_true, h2]
  exact if_neg h
theorem two_of {α : Type} {l : List α} (h : l.length = 2) : ∃ a b, l = [a, b] := by
  match l, h with
  | [a, b], _ => exact ⟨a, b, rfl⟩
abbrev Right := Str × List Str × List Str
/-- the lines of kinds from the i-th line on -/
def readKinds (cl lines : List Str) : Nat → Nat → List Right → Except Nat (List Right)
  | 0, _, ks => .ok ks
  | f + 1, i, ks => if i < lines.length ∨ ks = [] then
      match behind lines i "kind" with
      | .error n => .error n
      | .ok [x] => if ks.length < 4 ∧ isName x = true ∧ x ∉ ks.map (·.1) then
          match readLot cl lines (i + 1) "looks" with
          | .error n => .error n
          | .ok lo => match readLot cl lines (i + 2) "writes" with
            | .error n => .error n
            | .ok wr => readKinds cl lines f (i + 3) (ks ++ [(x, lo, wr)])
        else .error (i + 1)
      | .ok _ => .error (i + 1)
    else .ok ks
theorem behind_tx {lines : List Str} {i : Nat} {x : Str} {ws : List Str} (h : ∀ l ∈ lines, Tx l) (e : behind lines i x = .ok ws) : ∀ w ∈ ws, Tx w := by
  unfold behind at e
  split at e
  · cases e
  · rename_i l hl
    have hp := (h l (List.mem_of_getElem? hl)).parts (y := sp)
    split at e
    · cases e
    · rename_i w0 ws0 hw
      split at e
      · cases e
        exact fun w hw' => hp w (by
          have : words l = w0 :: ws := hw
          unfold words at this
          rw [this]
          exact List.mem_cons_of_mem _ hw')
      · cases e
/-! ### a book as an object -/
def dLot (l : List Str) : D := .tup (l.map D.str)
def dRight (k : Right) : D := .dic [.inr "look", .inr "write"] [dLot k.2.1, dLot k.2.2]
def dRights (ks : List Right) : D := .dic (ks.map fun k => .inr k.1) (ks.map dRight)
theorem any_key (ks : List Right) (x : Str) : ((ks.map fun k => (Sum.inr k.1 : Key)).any fun z => decide (z = Sum.inr x)) = decide (x ∈ ks.map (·.1)) := by
  induction ks with
  | nil => rfl
  | cons k ks ih =>
    rw [List.map_cons, List.any_cons, ih, List.map_cons]
    by_cases h : k.1 = x
    · simp [h]
    · have h2 : x ≠ k.1 := fun z => h z.symm
      simp [h, h2]
theorem put_right (ks : List Right) (x : Str) (lo wr : List Str) (h : x ∉ ks.map (·.1)) : D.dic (putKs (ks.map fun k => (Sum.inr k.1 : Key)) (.inr x)) (putDs (ks.map fun k => (Sum.inr k.1 : Key)) (ks.map dRight) (.inr x) (D.dic [.inr "look", .inr "write"] [dLot lo, dLot wr])) = dRights (ks ++ [(x, lo, wr)]) := by
  unfold putKs putDs dRights
  rw [any_key, decide_eq_false h, if_neg (by decide), if_neg (by decide), List.map_append, List.map_append]
  rfl
theorem readClients_tx {ls cl : List Str} (h : ∀ l ∈ ls, Tx l) (e : readClients ls = .ok cl) : (∀ w ∈ cl, Tx w) ∧ 2 ≤ cl.length ∧ cl.length ≤ 8 ∧ areNames cl = true := by
  unfold readClients at e
  split at e
  · cases e
  · rename_i ns hb
    split at e
    · rename_i h2
      cases e
      exact ⟨behind_tx h hb, h2⟩
    · cases e
theorem orB {c1 c2 : Prop} [Decidable c1] [Decidable c2] {B N : Prop} (h : c1 ∨ c2) (b : B) : if c1 then B else if c2 then B else N := by
  split
  · exact b
  · rename_i h1
    rw [if_pos (h.resolve_left h1)]
    exact b
theorem readLot_tx {cl ls : List Str} {i : Nat} {x : Str} {ws : List Str} (hc : ∀ w ∈ cl, Tx w) (e : readLot cl ls i x = .ok ws) : ∀ w ∈ ws, Tx w := by
  unfold readLot at e
  split at e
  · cases e
  · split at e
    · rename_i h
      cases e
      exact fun w hw => hc w (List.mem_filter.mp (h ▸ hw : w ∈ inSeq cl ws)).1
    · cases e
structure Bk where
  text : Str
  clients : List Str
  rivals : List PStr
  kinds : List Right
def read (text : Str) : Except Nat Bk :=
  let lines := Txt.split text nl
  match readClients lines with
  | .error n => .error n
  | .ok cl => match readRivals cl (lines.drop 1) 1 [] with
    | .error n => .error n
    | .ok ps => match readKinds cl lines (lines.length + 1) (1 + ps.length) [] with
      | .error n => .error n
      | .ok ks => .ok ⟨text, cl, ps, ks⟩
abbrev bkF : List Str := ["text", "clients", "rivals", "kinds", "_rights"]
/-- rv: its pairs of rivals, ascending -/
def bkV (b : Bk) (rv : List PStr) : List D := [.str b.text, dLot b.clients, .tup (rv.map D2), .tup (b.kinds.map fun k => .str k.1), dRights b.kinds]
/-- an answer or an error with a number -/
def Ans {α : Type} (r : Except Nat α) (BB : Addr) (k : α → Prop) (x : Addr → D → Prop) : Prop := match r with
  | .ok a => k a
  | .error n => x BB (.int n)
/-! ### what the functions promise -/
def cIsName : Con := fun ds _ Qd _ => ∃ w, ds = [.str w] ∧ w.length ≤ 100000 ∧ Qd (.bl (isName w)) []
def cAreNames : Con := fun ds _ Qd _ => ∃ ws : List Str, ds = [.lst (ws.map D.str)] ∧ (∀ w ∈ ws, Tx w) ∧ ws.length ≤ 4000 ∧ Qd (.bl (areNames ws)) []
def cInSeq : Con := fun ds _ Qd _ => ∃ (cl ms : List Str) (d : D), ds = [dLot cl, d] ∧ (d = .lst (ms.map D.str) ∨ d = .tup (ms.map D.str)) ∧ (∀ w ∈ cl, Tx w) ∧ (∀ w ∈ ms, Tx w) ∧ cl.length ≤ 100000 ∧ Qd (dLot (inSeq cl ms)) []
def cIsLot : Con := fun ds _ Qd _ => ∃ (cl ms : List Str), ds = [dLot cl, dLot ms] ∧ (∀ w ∈ cl, Tx w) ∧ (∀ w ∈ ms, Tx w) ∧ cl.length ≤ 100000 ∧ Qd (.bl (decide (ms = inSeq cl ms))) []
def cNeed (BB : Addr) : Con := fun ds _ Qd Xd => ∃ (b : Bool) (i : Nat), ds = [.bl b, .int i] ∧ if b = true then Qd .non [] else Xd BB (.int ((i + 1 : Nat) : Int))
def cBehind (BB : Addr) : ConF := fun ds _ Qd Xd => ∃ (ls : List Str) (i : Nat) (x : Str), ds = [.lst (ls.map D.str), .int i, .str x] ∧ (∀ w ∈ ls, Tx w) ∧ Tx x ∧ Ans (behind ls i x) BB (fun ws => Qd (ws.map D.str) []) Xd
def cReadLot (BB : Addr) : Con := fun ds _ Qd Xd => ∃ (cl ls : List Str) (i : Nat) (x : Str), ds = [dLot cl, .lst (ls.map D.str), .int i, .str x] ∧ (∀ w ∈ cl, Tx w) ∧ cl.length ≤ 100000 ∧ (∀ w ∈ ls, Tx w) ∧ Tx x ∧ Ans (readLot cl ls i x) BB (fun ws => Qd (dLot ws) []) Xd
def cReadClients (BB : Addr) : Con := fun ds _ Qd Xd => ∃ (ls : List Str), ds = [.lst (ls.map D.str)] ∧ (∀ w ∈ ls, Tx w) ∧ Ans (readClients ls) BB (fun ws => Qd (dLot ws) []) Xd
def cReadRivals (BB : Addr) : Con := fun ds _ Qd Xd => ∃ (cl ls : List Str), ds = [dLot cl, .lst (ls.map D.str)] ∧ (∀ w ∈ cl, Tx w) ∧ cl.length ≤ 100000 ∧ (∀ w ∈ ls, Tx w) ∧ ls.length ≤ 100000 ∧ Ans (readRivals cl (ls.drop 1) 1 []) BB (fun ps => Qd (.lst (ps.map D2)) []) Xd
def cReadKinds (BB : Addr) : Con := fun ds _ Qd Xd => ∃ (cl ls : List Str) (i : Nat), ds = [dLot cl, .lst (ls.map D.str), .int i] ∧ (∀ w ∈ cl, Tx w) ∧ cl.length ≤ 100000 ∧ (∀ w ∈ ls, Tx w) ∧ Ans (readKinds cl ls (ls.length + 1) i []) BB (fun ks => Qd (dRights ks) []) Xd
/-- any value but a text, or a text -/
def cInitBook (BB : Addr) : ConI := fun ds Qd Xd => ∃ t : Str, ds = [.str t] ∧ Tx t ∧ Ans (read t) BB (fun b => ∀ rv : List PStr, rv.Perm b.rivals → Asc rv → Qd bkF (bkV b rv)) Xd
end WB
namespace DL
open PySem L2
/-- a comprehension that leaves the slots alone: what is kept of the items, made over -/
theorem lc_fm {α : Type} (xs : List α) (e : α → D) (p : α → Bool) (f : α → D) {g : AG} {t : AT} {w : AE} {vs : List Nat} {e1 e0 : Env} {Q : List D → Env → Prop} (h0 : e0 = wipeE e1 vs) (hl : xs.length ≤ sizeLine)
    (hs : ∀ x ∈ xs, ∀ (acc : List D) (G : List D → Env → Prop), acc.length < sizeLine → G (if p x = true then acc ++ [f x] else acc) e0 → g (e x) e0 fun env2 => t env2 (fun b env3 => if b = true then w env3 (fun y env4 => acc.length < sizeLine ∧ G (acc ++ [y]) (wipeE env4 vs)) X0 else G acc (wipeE env3 vs)) X0)
    (hq : Q ((xs.filter p).map f) (restE e1 e0 vs)) : ∃ Inv : Nat → List D → Env → Prop, Inv 0 [] e0 ∧ LcB (xs.map e) Inv g t w vs e1 Q := by
  refine ⟨fun i acc env' => acc = ((xs.take i).filter p).map f ∧ env' = e0, ⟨rfl, rfl⟩, ?_, ?_⟩
  · rintro i d acc env' hd ⟨rfl, he⟩
    rw [he]
    rw [List.getElem?_map] at hd
    cases hx : xs[i]? with
    | none => rw [hx] at hd; cases hd
    | some x =>
      rw [hx] at hd
      cases hd
      have hi : i < xs.length := (List.getElem?_eq_some_iff.mp hx).1
      have hz : (((xs.take i).filter p).map f).length < sizeLine := by
        have h1 := List.length_filter_le p (xs.take i)
        have h2 := List.length_take_le i xs
        rw [List.length_map]
        omega
      refine hs x (List.mem_of_getElem? hx) _ (fun acc' env' => acc' = ((xs.take (i + 1)).filter p).map f ∧ env' = e0) hz ⟨?_, rfl⟩
      have e3 : xs.take (i + 1) = xs.take i ++ [x] := by rw [List.take_add_one, hx]; rfl
      rw [e3, List.filter_append, List.map_append]
      by_cases hp : p x = true
      · rw [if_pos hp]; simp [List.filter, hp]
      · rw [if_neg hp]; simp [List.filter, hp]
  · rintro acc env' ⟨rfl, rfl⟩
    rw [List.length_map, List.take_length]
    exact hq
theorem atN {α : Type} (xs : List α) (i : Nat) : atI xs (i : Int) = xs[i]? := by
  unfold atI ixN
  rw [if_pos (by omega)]
  by_cases h : i < xs.length
  · rw [if_pos (by omega)]; simp
  · rw [if_neg (by omega), List.getElem?_eq_none (by omega)]; rfl
theorem cutD_drop {α : Type} (xs : List α) (i : Nat) : cutD xs (some (i : Int)) none = xs.drop i := by
  unfold cutD HT.sIx
  show (xs.drop (HT.sIx xs.length 0 (some (i : Int)))).take (xs.length - HT.sIx xs.length 0 (some (i : Int))) = _
  rw [HT.sIx_nat]
  by_cases h : i ≤ xs.length
  · rw [Nat.min_eq_left h]
    exact List.take_of_length_le (by rw [List.length_drop]; exact Nat.le_refl _)
  · rw [Nat.min_eq_right (by omega), List.drop_of_length_le (by omega), Nat.sub_self, List.take_zero, List.drop_of_length_le (by omega)]
theorem cutD_take {α : Type} (xs : List α) (i : Nat) : cutD xs none (some (i : Int)) = xs.take i := by
  unfold cutD HT.sIx
  show (xs.drop 0).take (HT.sIx xs.length xs.length (some (i : Int)) - 0) = _
  rw [HT.sIx_nat, List.drop_zero, Nat.sub_zero]
  by_cases h : i ≤ xs.length
  · rw [Nat.min_eq_left h]
  · rw [Nat.min_eq_right (by omega), List.take_length, List.take_of_length_le (by omega)]
end DL
namespace DL
open PySem L2
/-- what stands behind a statement, not looked into until the slots are known -/
def Rest (w : AS) (A : AEnds) (env : Env) : Prop := w env A
theorem wSeqR {w1 w2 : AS} {env : Env} {A : AEnds} : wSeq w1 w2 env A = w1 env { A with nx := Rest w2 A } := rfl
theorem Rest_cons {w : AS} {A : AEnds} {s : Sl} {env : Env} : Rest w A (s :: env) = w (s :: env) A := rfl
/-- what the turns of a while must keep -/
def WhB (W : Nat → Env → Prop) (t : AT) (wb : AS) (A : AEnds) : Prop := ∀ m env', W m env' → t env' (fun b env1 => if b = true then wb env1 { A with nx := fun e => ∃ m', m' < m ∧ W m' e, ct := fun e => ∃ m', m' < m ∧ W m' e, bk := A.nx } else A.nx env1) A.ex
theorem wWhile_eq {t : AT} {wb : AS} {env : Env} {A : AEnds} : wWhile t wb env A = ∃ W : Nat → Env → Prop, (∃ m, W m env) ∧ WhB W t wb A := rfl
end DL
set_option Elab.async false
set_option linter.all false
set_option maxRecDepth 100000
set_option maxHeartbeats 4000000
/-! What reading a book's text comes to, line by line, word by word. -/
namespace WB
open PySem PySem.Spec PyProof.Rows L2 DL TL
/-- no blank, no line feed -/
def Plain (w : Str) : Prop := 32 ∉ tl w ∧ 10 ∉ tl w
theorem isName_plain {w : Str} (h : isName w = true) : Plain w := by
  unfold isName at h
  simp only [Bool.and_eq_true, decide_eq_true_eq] at h
  obtain ⟨_, _, h2, _⟩ := h
  unfold Txt.isalpha at h2
  simp only [Bool.and_eq_true] at h2
  have h3 := Array.all_eq_true_iff_forall_mem.mp h2.2
  exact ⟨fun z => absurd (h3 32 (by simpa [tl] using z)) (by decide), fun z => absurd (h3 10 (by simpa [tl] using z)) (by decide)⟩
/-- a line, of its words -/
def ln (ws : List Str) : Str := Txt.join sp ws
theorem tl_sp : tl sp = [32] := by decide +kernel
theorem tl_nl : tl nl = [10] := by decide +kernel
theorem words_ln {ws : List Str} (h0 : ws ≠ []) (h : ∀ w ∈ ws, Plain w) : words (ln ws) = ws := split_join tl_sp (by decide +kernel) h0 fun p hp => (h p hp).1
theorem joinL_mem : ∀ {parts : List (List Nat)} {S : List Nat} {c : Nat}, c ∈ joinL S parts → c ∈ S ∨ ∃ p ∈ parts, c ∈ p
  | [], S, c, h => by simp [joinL] at h
  | [q], S, c, h => .inr ⟨q, List.mem_singleton.mpr rfl, h⟩
  | q :: r :: rest, S, c, h => by
    rcases List.mem_append.mp (show c ∈ q ++ (S ++ joinL S (r :: rest)) from h) with h | h
    · exact .inr ⟨q, List.mem_cons_self, h⟩
    · rcases List.mem_append.mp h with h | h
      · exact .inl h
      · rcases joinL_mem h with h | ⟨p, hp, h⟩
        · exact .inl h
        · exact .inr ⟨p, List.mem_cons_of_mem _ hp, h⟩
theorem ln_nonl {ws : List Str} (h : ∀ w ∈ ws, Plain w) : 10 ∉ tl (ln ws) := fun z => by
  unfold ln at z
  rw [join_eq, tl_join, tl_sp] at z
  rcases joinL_mem z with z | ⟨p, hp, z⟩
  · simp at z
  · obtain ⟨w, hw, rfl⟩ := List.mem_map.mp hp
    exact (h w hw).2 z
/-- a text, of its lines' words -/
def txt (L : List (List Str)) : Str := Txt.join nl (L.map ln)
structure Lines (L : List (List Str)) : Prop where
  ne : L ≠ []
  nn : ∀ ws ∈ L, ws ≠ []
  pl : ∀ ws ∈ L, ∀ w ∈ ws, Plain w
theorem Lines.split {L : List (List Str)} (h : Lines L) : Txt.split (txt L) nl = L.map ln := split_join tl_nl (by decide +kernel) (fun z => h.ne (List.map_eq_nil_iff.mp z)) fun p hp => by
  obtain ⟨ws, hw, rfl⟩ := List.mem_map.mp hp
  exact ln_nonl (h.pl ws hw)
/-! the readers, over lists of words -/
def behindW (L : List (List Str)) (i : Nat) (first : Str) : Except Nat (List Str) :=
  match L[i]? with
  | some (w :: ws) => if w = first then .ok ws else .error (i + 1)
  | _ => .error (i + 1)
theorem behind_W {L : List (List Str)} (h : Lines L) (i : Nat) (x : Str) : behind (L.map ln) i x = behindW L i x := by
  unfold behind behindW
  rw [List.getElem?_map]
  cases e : L[i]? with
  | none => rfl
  | some ws =>
    have hm := List.mem_of_getElem? e
    show (match words (ln ws) with
      | [] => (Except.error (i + 1) : Except Nat (List Str))
      | w :: ws => if w = x then Except.ok ws else Except.error (i + 1)) = _
    rw [words_ln (h.nn ws hm) (h.pl ws hm)]
    cases ws with
    | nil => exact absurd rfl (h.nn _ hm)
    | cons w r => rfl
def lotW (cl : List Str) (L : List (List Str)) (i : Nat) (first : Str) : Except Nat (List Str) :=
  match behindW L i first with
  | .error n => .error n
  | .ok ws => if ws = inSeq cl ws then .ok ws else .error (i + 1)
theorem lot_W {L : List (List Str)} (h : Lines L) (cl : List Str) (i : Nat) (x : Str) : readLot cl (L.map ln) i x = lotW cl L i x := by
  unfold readLot lotW
  rw [behind_W h]
  try rfl
def rivalsW (cl : List Str) : List (List Str) → Nat → List PStr → Except Nat (List PStr)
  | [], _, ps => .ok ps
  | l :: r, i, ps => match l with
    | w :: ws => if w = "rivals" then
        match ws, inSeq cl ws with
        | [_, _], [a, b] => if (a, b) ∈ ps then .error (i + 1) else rivalsW cl r (i + 1) (ps ++ [(a, b)])
        | _, _ => .error (i + 1)
      else .ok ps
    | [] => .ok ps
theorem rivals_W (cl : List Str) : ∀ {L : List (List Str)}, (∀ ws ∈ L, ws ≠ []) → (∀ ws ∈ L, ∀ w ∈ ws, Plain w) → ∀ (i : Nat) (ps : List PStr), readRivals cl (L.map ln) i ps = rivalsW cl L i ps
  | [], _, _, _, _ => rfl
  | l :: r, h1, h2, i, ps => by
    rw [List.map_cons, readRivals, words_ln (h1 l List.mem_cons_self) (h2 l List.mem_cons_self)]
    have ih := rivals_W cl (fun ws h => h1 ws (List.mem_cons_of_mem _ h)) (fun ws h => h2 ws (List.mem_cons_of_mem _ h))
    cases l with
    | nil => rfl
    | cons w ws =>
      simp only [rivalsW]
      split
      · split
        · rename_i a b e
          (try simp only [e])
          split
          · rfl
          · exact ih _ _
        · rename_i hno
          first
            | rfl
            | (split
               · rename_i a b _ e
                 exact absurd e (by intro z; exact hno _ _ _ _ rfl z)
               · rfl)
      · rfl
def kindsW (cl : List Str) (L : List (List Str)) : Nat → Nat → List Right → Except Nat (List Right)
  | 0, _, ks => .ok ks
  | f + 1, i, ks => if i < L.length ∨ ks = [] then
      match behindW L i "kind" with
      | .error n => .error n
      | .ok [x] => if ks.length < 4 ∧ isName x = true ∧ x ∉ ks.map (·.1) then
          match lotW cl L (i + 1) "looks" with
          | .error n => .error n
          | .ok lo => match lotW cl L (i + 2) "writes" with
            | .error n => .error n
            | .ok wr => kindsW cl L f (i + 3) (ks ++ [(x, lo, wr)])
        else .error (i + 1)
      | .ok _ => .error (i + 1)
    else .ok ks
theorem kinds_W {L : List (List Str)} (h : Lines L) (cl : List Str) : ∀ (f i : Nat) (ks : List Right), readKinds cl (L.map ln) f i ks = kindsW cl L f i ks
  | 0, _, _ => rfl
  | f + 1, i, ks => by
    simp only [readKinds, kindsW, List.length_map, behind_W h, lot_W h, kinds_W h cl f]
    try rfl
def clientsW (L : List (List Str)) : Except Nat (List Str) :=
  match behindW L 0 "clients" with
  | .error n => .error n
  | .ok ns => if 2 ≤ ns.length ∧ ns.length ≤ 8 ∧ areNames ns = true then .ok ns else .error 1
def readW (L : List (List Str)) : Except Nat Bk :=
  match clientsW L with
  | .error n => .error n
  | .ok cl => match rivalsW cl (L.drop 1) 1 [] with
    | .error n => .error n
    | .ok ps => match kindsW cl L (L.length + 1) (1 + ps.length) [] with
      | .error n => .error n
      | .ok ks => .ok ⟨txt L, cl, ps, ks⟩
theorem read_W {L : List (List Str)} (h : Lines L) : WB.read (txt L) = readW L := by
  unfold WB.read readW readClients clientsW
  rw [h.split]
  simp only [behind_W h, List.length_map, ← List.map_drop]
  have e : ∀ cl i ps, readRivals cl ((L.drop 1).map ln) i ps = rivalsW cl (L.drop 1) i ps := fun cl i ps => rivals_W cl (fun ws hw => h.nn ws (List.mem_of_mem_drop hw)) (fun ws hw => h.pl ws (List.mem_of_mem_drop hw)) i ps
  simp only [e, kinds_W h]
  try rfl
/-! ### lots, pairs in sequence -/
theorem contains_iff {ms : List Str} {c : Str} : ms.contains c = true ↔ c ∈ ms := by simp
/-- all pairs, the one ahead that stands ahead -/
def pairsOf {α : Type} : List α → List (α × α)
  | [] => []
  | x :: r => r.map (x, ·) ++ pairsOf r
theorem pairsOf_mem {α : Type} : ∀ {l : List α} {p : α × α}, p ∈ pairsOf l → p.1 ∈ l ∧ p.2 ∈ l
  | x :: r, p, h => by
    rcases List.mem_append.mp h with h | h
    · obtain ⟨y, hy, rfl⟩ := List.mem_map.mp h
      exact ⟨List.mem_cons_self, List.mem_cons_of_mem _ hy⟩
    · exact ⟨List.mem_cons_of_mem _ (pairsOf_mem h).1, List.mem_cons_of_mem _ (pairsOf_mem h).2⟩
theorem inSeq_congr {cl a b : List Str} (h : ∀ c ∈ cl, c ∈ a ↔ c ∈ b) : inSeq cl a = inSeq cl b := by
  unfold inSeq
  refine List.filter_congr fun c hc => ?_
  rw [Bool.eq_iff_iff, contains_iff, contains_iff]
  exact h c hc
theorem inSeq_cons_no {c : Str} {cl ms : List Str} (h : c ∉ ms) : inSeq (c :: cl) ms = inSeq cl ms := by
  unfold inSeq
  rw [List.filter_cons_of_neg (by simpa using h)]
theorem inSeq_cons_yes {c : Str} {cl ms : List Str} (h : c ∈ ms) : inSeq (c :: cl) ms = c :: inSeq cl ms := by
  unfold inSeq
  rw [List.filter_cons_of_pos (by simpa using h)]
theorem inSeq_one : ∀ {cl : List Str} {b : Str}, cl.Nodup → b ∈ cl → inSeq cl [b] = [b]
  | c :: cl, b, hn, hb => by
    obtain ⟨h1, h2⟩ := List.nodup_cons.mp hn
    by_cases h : c = b
    · subst h
      rw [inSeq_cons_yes (by simp)]
      congr 1
      unfold inSeq
      refine List.filter_eq_nil_iff.mpr fun x hx => ?_
      have : x ≠ c := fun z => h1 (z ▸ hx)
      simpa using this
    · rw [inSeq_cons_no (by simpa using h)]
      exact inSeq_one h2 ((List.mem_cons.mp hb).resolve_left fun z => h z.symm)
theorem inSeq_pair : ∀ {cl : List Str} {a b : Str}, cl.Nodup → (a, b) ∈ pairsOf cl → inSeq cl [a, b] = [a, b]
  | c :: cl, a, b, hn, h => by
    obtain ⟨h1, h2⟩ := List.nodup_cons.mp hn
    rcases List.mem_append.mp h with h | h
    · obtain ⟨y, hy, e⟩ := List.mem_map.mp h
      cases e
      rw [inSeq_cons_yes (by simp)]
      congr 1
      rw [inSeq_congr (b := [b]) fun x hx => ?_]
      · exact inSeq_one h2 hy
      · have : x ≠ c := fun z => h1 (z ▸ hx)
        simp [this]
    · have hm := pairsOf_mem h
      have ha : c ≠ a := fun z => h1 (z ▸ hm.1)
      have hb : c ≠ b := fun z => h1 (z ▸ hm.2)
      rw [inSeq_cons_no (by simp [ha, hb])]
      exact inSeq_pair h2 h
theorem inSeq_swap {cl : List Str} {a b : Str} : inSeq cl [b, a] = inSeq cl [a, b] := inSeq_congr fun c _ => by simp [or_comm]
theorem inSeq_self : ∀ {cl : List Str}, inSeq cl cl = cl := by
  intro cl
  unfold inSeq
  exact List.filter_eq_self.mpr fun c hc => by simpa using hc
theorem inSeq_filter {cl : List Str} (p : Str → Bool) : inSeq cl (cl.filter p) = cl.filter p := by
  unfold inSeq
  refine List.filter_congr fun c hc => ?_
  rw [Bool.eq_iff_iff, contains_iff, List.mem_filter]
  exact ⟨fun h => h.2, fun h => ⟨hc, h⟩⟩
/-! ### the parts of a book's text, one behind the other -/
def lotS (cl : List Str) (T : List (List Str)) (i : Nat) (first : Str) : Except Nat (List Str) :=
  match T with
  | (w :: ws) :: _ => if w = first then (if ws = inSeq cl ws then .ok ws else .error (i + 1)) else .error (i + 1)
  | _ => .error (i + 1)
def kindSt (cl : List Str) (rc : List (List Str) → Nat → List Right → Except Nat (List Right)) (T : List (List Str)) (i : Nat) (ks : List Right) : Except Nat (List Right) := if T ≠ [] ∨ ks = [] then
      match T with
      | [w, x] :: T1 => if w = "kind" then
          if ks.length < 4 ∧ isName x = true ∧ x ∉ ks.map (·.1) then
            match lotS cl T1 (i + 1) "looks" with
            | .error n => .error n
            | .ok lo => match lotS cl (T1.drop 1) (i + 2) "writes" with
              | .error n => .error n
              | .ok wr => rc (T1.drop 2) (i + 3) (ks ++ [(x, lo, wr)])
          else .error (i + 1)
        else .error (i + 1)
      | _ => .error (i + 1)
    else .ok ks
def kindsS (cl : List Str) : Nat → List (List Str) → Nat → List Right → Except Nat (List Right)
  | 0, _, _, ks => .ok ks
  | f + 1, T, i, ks => kindSt cl (kindsS cl f) T i ks
theorem kS_succ {cl : List Str} {f : Nat} {T : List (List Str)} {i : Nat} {ks : List Right} : kindsS cl (f + 1) T i ks = kindSt cl (kindsS cl f) T i ks := rfl
theorem drop_nil_of {α : Type} {L : List α} {i : Nat} (h : L[i]? = none) : L.drop i = [] := List.drop_eq_nil_iff.mpr (List.getElem?_eq_none_iff.mp h)
theorem lot_S {cl : List Str} {L : List (List Str)} {i : Nat} {x : Str} : lotW cl L i x = lotS cl (L.drop i) i x := by
  unfold lotW behindW lotS
  rw [List.drop_eq_getElem?_toList_append]
  cases h : L[i]? with
  | none =>
    have h2 : L.drop (i + 1) = [] := List.drop_eq_nil_iff.mpr (by have := List.getElem?_eq_none_iff.mp h; omega)
    rw [h2]
    rfl
  | some l =>
    cases l with
    | nil => rfl
    | cons w ws =>
      simp only [Option.toList, List.cons_append, List.nil_append]
      by_cases h2 : w = x
      · simp only [if_pos h2]
      · simp only [if_neg h2]
theorem kinds_S {cl : List Str} {L : List (List Str)} : ∀ (f i : Nat) (ks : List Right), kindsW cl L f i ks = kindsS cl f (L.drop i) i ks
  | 0, _, _ => rfl
  | f + 1, i, ks => by
    rw [kindsW, kS_succ]
    unfold kindSt
    have c : (i < L.length ∨ ks = []) ↔ (L.drop i ≠ [] ∨ ks = []) := by
      rw [ne_eq, List.drop_eq_nil_iff, Nat.not_le]
    by_cases h : L.drop i ≠ [] ∨ ks = []
    · rw [if_pos (c.mpr h), if_pos h]
      unfold behindW
      have e : L.drop i = L[i]?.toList ++ L.drop (i + 1) := List.drop_eq_getElem?_toList_append
      cases h1 : L[i]? with
      | none =>
        rw [h1] at e
        have : L.drop i = [] := by
          rw [e]
          rw [Option.toList, List.nil_append, List.drop_eq_nil_iff]
          have := List.getElem?_eq_none_iff.mp h1
          omega
        rw [this]
      | some l =>
        rw [h1] at e
        simp only [Option.toList, List.cons_append, List.nil_append] at e
        rw [e]
        have d2 : (L.drop (i + 1)).drop 1 = L.drop (i + 2) := by rw [List.drop_drop]
        have d3 : (L.drop (i + 1)).drop 2 = L.drop (i + 3) := by rw [List.drop_drop]
        match l with
        | [] => rfl
        | [w] =>
          by_cases h2 : w = "kind"
          · simp only [if_pos h2]
          · simp only [if_neg h2]
        | [w, x] =>
          by_cases h2 : w = "kind"
          · simp only [if_pos h2, lot_S, d2, d3, kinds_S f]
          · simp only [if_neg h2]
        | w :: x :: y :: r =>
          by_cases h2 : w = "kind"
          · simp only [if_pos h2]
          · simp only [if_neg h2]
    · rw [if_neg (fun z => h (c.mp z)), if_neg h]
abbrev rivalLine (p : PStr) : List Str := ["rivals", p.1, p.2]
abbrev cLine (cl : List Str) : List Str := "clients" :: cl
abbrev kLine (x : Str) : List Str := ["kind", x]
abbrev lLine (cl : List Str) : List Str := "looks" :: cl
abbrev wLine (cl : List Str) : List Str := "writes" :: cl
theorem rivals_one {cl : List Str} {x y a b : Str} {r : List (List Str)} {i : Nat} {ps : List PStr} (h2 : inSeq cl [x, y] = [a, b]) (h : (a, b) ∉ ps) : rivalsW cl ([Str.ofString "rivals", x, y] :: r) i ps = rivalsW cl r (i + 1) (ps ++ [(a, b)]) := by
  conv => lhs; unfold rivalsW
  simp only [if_true, h2]
  exact if_neg h
theorem rivals_bad {cl : List Str} {ws : List Str} {r : List (List Str)} {i : Nat} {ps : List PStr} (h : ∀ x y a b, ws = [x, y] → inSeq cl ws = [a, b] → (a, b) ∈ ps) : rivalsW cl ((Str.ofString "rivals" :: ws) :: r) i ps = .error (i + 1) := by
  unfold rivalsW
  simp only [if_true]
  split
  · rename_i a b h2
    exact if_pos (h _ _ a b rfl h2)
  · rfl
theorem rivals_good {cl : List Str} (hn : cl.Nodup) : ∀ {qs : List PStr} {T : List (List Str)} {i : Nat} {ps : List PStr}, (∀ q ∈ qs, q ∈ pairsOf cl) → (ps ++ qs).Nodup → rivalsW cl (qs.map rivalLine ++ T) i ps = rivalsW cl T (i + qs.length) (ps ++ qs)
  | [], _, _, _, _, _ => by simp
  | (a, b) :: qs, T, i, ps, h, hd => by
    have hm := h (a, b) List.mem_cons_self
    rw [List.map_cons, List.cons_append, show rivalLine (a, b) = [Str.ofString "rivals", a, b] from rfl]
    have hx : (a, b) ∉ ps := fun z => (List.nodup_append.mp hd).2.2 _ z _ List.mem_cons_self rfl
    rw [rivals_one (inSeq_pair hn hm) hx, rivals_good hn (fun q hq => h q (List.mem_cons_of_mem _ hq)) (by rw [List.append_assoc]; exact hd)]
    simp only [List.append_assoc, List.cons_append, List.nil_append, List.length_cons]
    congr 1
    omega
/-- no line of rivals -/
def NoRiv : List (List Str) → Prop
  | (w :: _) :: _ => w ≠ "rivals"
  | _ => True
theorem rivals_no {cl : List Str} {w : Str} {ws : List Str} {r : List (List Str)} {i : Nat} {ps : List PStr} (h : w ≠ "rivals") : rivalsW cl ((w :: ws) :: r) i ps = .ok ps := by
  unfold rivalsW
  exact if_neg h
theorem rivals_end {cl : List Str} {T : List (List Str)} {i : Nat} {ps : List PStr} (h : NoRiv T) : rivalsW cl T i ps = .ok ps := by
  match T, h with
  | [], _ => rfl
  | [] :: _, _ => rfl
  | (w :: ws) :: r, h => exact rivals_no h
/-- the clients are read, the rivals, then the kinds -/
structure Cl (cl : List Str) : Prop where
  ge : 2 ≤ cl.length
  le : cl.length ≤ 8
  nm : ∀ c ∈ cl, isName c = true
  nd : cl.Nodup
theorem seen_nodup {xs : List Str} (h : xs.Nodup) : ∀ {i : Nat}, i ≤ xs.length → DLT.seen (fun i => xs.getD i Str.empty) i = xs.take i
  | 0, _ => by simp [DLT.seen]
  | i + 1, hi => by
    have e : xs.getD i Str.empty = xs[i] := by rw [List.getD_eq_getElem?_getD, List.getElem?_eq_getElem (by omega)]; rfl
    have h2 : xs[i] ∉ xs.take i := fun z => by
      have h3 : (xs.take (i + 1)).Nodup := h.sublist (List.take_sublist _ _)
      rw [List.take_succ_eq_append_getElem (by omega)] at h3
      exact (List.nodup_append.mp h3).2.2 _ z _ (List.mem_singleton.mpr rfl) rfl
    rw [DLT.seen, seen_nodup h (by omega), e, if_neg (by simpa using h2), List.take_succ_eq_append_getElem (by omega)]
theorem dcount_nodup {xs : List Str} (h : xs.Nodup) : dcount xs = xs.length := by
  unfold dcount
  rw [seen_nodup h (Nat.le_refl _), List.take_length]
theorem areNames_of : ∀ {cl : List Str}, (∀ c ∈ cl, isName c = true) → cl.Nodup → areNames cl = true := fun {cl} h hn => by
  unfold areNames
  rw [List.all_eq_true.mpr h, Bool.true_and, decide_eq_true_eq]
  exact dcount_nodup hn
theorem clientsW_of {cl : List Str} (h : Cl cl) (r : List (List Str)) : clientsW (cLine cl :: r) = .ok cl := by
  unfold clientsW behindW
  simp only [List.getElem?_cons_zero, if_true]
  rw [if_pos ⟨h.ge, h.le, areNames_of h.nm h.nd⟩]
theorem clientsW_bad {cl : List Str} (r : List (List Str)) (h : ¬ (2 ≤ cl.length ∧ cl.length ≤ 8 ∧ areNames cl = true)) : clientsW (cLine cl :: r) = .error 1 := by
  unfold clientsW behindW
  simp only [List.getElem?_cons_zero, if_true]
  rw [if_neg h]
theorem readW_bad {cl : List Str} (r : List (List Str)) (h : ¬ (2 ≤ cl.length ∧ cl.length ≤ 8 ∧ areNames cl = true)) : readW (cLine cl :: r) = .error 1 := by
  unfold readW
  rw [clientsW_bad r h]
theorem readW_rivals {cl : List Str} (h : Cl cl) {qs : List PStr} {T : List (List Str)} (hq : ∀ q ∈ qs, q ∈ pairsOf cl) (hd : qs.Nodup) : readW (cLine cl :: (qs.map rivalLine ++ T)) = match rivalsW cl T (1 + qs.length) qs with
    | .error n => .error n
    | .ok ps => match kindsW cl (cLine cl :: (qs.map rivalLine ++ T)) ((cLine cl :: (qs.map rivalLine ++ T)).length + 1) (1 + ps.length) [] with
      | .error n => .error n
      | .ok ks => .ok ⟨txt (cLine cl :: (qs.map rivalLine ++ T)), cl, ps, ks⟩ := by
  unfold readW
  rw [clientsW_of h]
  simp only [List.drop_succ_cons, List.drop_zero]
  rw [rivals_good h.nd hq (by simpa using hd), List.nil_append]
theorem readW_kinds {cl : List Str} (h : Cl cl) {qs : List PStr} {T : List (List Str)} (hq : ∀ q ∈ qs, q ∈ pairsOf cl) (hd : qs.Nodup) (hT : NoRiv T) : readW (cLine cl :: (qs.map rivalLine ++ T)) = match kindsS cl (qs.length + T.length + 2) T (1 + qs.length) [] with
      | .error n => .error n
      | .ok ks => .ok ⟨txt (cLine cl :: (qs.map rivalLine ++ T)), cl, qs, ks⟩ := by
  rw [readW_rivals h hq hd, rivals_end hT]
  have e : (cLine cl :: (qs.map rivalLine ++ T)).drop (1 + qs.length) = T := by
    rw [Nat.add_comm, List.drop_succ_cons]
    have : qs.length = (qs.map rivalLine).length := by rw [List.length_map]
    rw [this, List.drop_left]
  simp only [kinds_S, e, List.length_cons, List.length_append, List.length_map]
theorem kS_done {cl : List Str} {f i : Nat} {ks : List Right} (h : ks ≠ []) : kindsS cl f [] i ks = .ok ks := by
  cases f with
  | zero => rfl
  | succ f =>
    rw [kS_succ]
    unfold kindSt
    rw [if_neg (by simp [h])]
theorem kS_none {cl : List Str} {f i : Nat} : kindsS cl (f + 1) [] i [] = .error (i + 1) := by
  rw [kS_succ]
  unfold kindSt
  rw [if_pos (.inr rfl)]
theorem kS_kind {cl : List Str} {f i : Nat} {ks : List Right} {l : List Str} {T : List (List Str)} (h : ∀ x, l = kLine x → ¬ (ks.length < 4 ∧ isName x = true ∧ x ∉ ks.map (·.1))) : kindsS cl (f + 1) (l :: T) i ks = .error (i + 1) := by
  rw [kS_succ]
  unfold kindSt
  rw [if_pos (.inl (List.cons_ne_nil _ _))]
  match l, h with
  | [], _ => rfl
  | [_], _ => rfl
  | _ :: _ :: _ :: _, _ => rfl
  | [w, x], h =>
    by_cases e : w = "kind"
    · simp only [if_pos e]
      rw [if_neg (h x (by rw [e]))]
    · simp only [if_neg e]
theorem kS_looks {cl : List Str} {f i : Nat} {ks : List Right} {x : Str} {T : List (List Str)} (h : ks.length < 4 ∧ isName x = true ∧ x ∉ ks.map (·.1)) (hl : lotS cl T (i + 1) "looks" = .error (i + 2)) : kindsS cl (f + 1) (kLine x :: T) i ks = .error (i + 2) := by
  rw [kS_succ]
  unfold kindSt
  rw [if_pos (.inl (List.cons_ne_nil _ _))]
  simp only [if_true]
  rw [if_pos h, hl]
theorem kS_writes {cl : List Str} {f i : Nat} {ks : List Right} {x : Str} {lo : List Str} {T : List (List Str)} (h : ks.length < 4 ∧ isName x = true ∧ x ∉ ks.map (·.1)) (hl : lo = inSeq cl lo) (hw : lotS cl T (i + 2) "writes" = .error (i + 3)) : kindsS cl (f + 1) (kLine x :: lLine lo :: T) i ks = .error (i + 3) := by
  rw [kS_succ]
  unfold kindSt
  rw [if_pos (.inl (List.cons_ne_nil _ _))]
  simp only [if_true]
  rw [if_pos h, show lotS cl (lLine lo :: T) (i + 1) "looks" = .ok lo by rw [lotS, if_pos rfl, if_pos hl]]
  simp only [List.drop_succ_cons, List.drop_zero]
  rw [hw]
theorem kS_one {cl : List Str} {f i : Nat} {ks : List Right} {x : Str} {lo wr : List Str} {T : List (List Str)} (h : ks.length < 4 ∧ isName x = true ∧ x ∉ ks.map (·.1)) (hl : lo = inSeq cl lo) (hw : wr = inSeq cl wr) : kindsS cl (f + 1) (kLine x :: lLine lo :: wLine wr :: T) i ks = kindsS cl f T (i + 3) (ks ++ [(x, lo, wr)]) := by
  rw [kS_succ]
  unfold kindSt
  rw [if_pos (.inl (List.cons_ne_nil _ _))]
  simp only [if_true]
  rw [if_pos h, show lotS cl (lLine lo :: wLine wr :: T) (i + 1) "looks" = .ok lo by rw [lotS, if_pos rfl, if_pos hl]]
  simp only [List.drop_succ_cons, List.drop_zero]
  rw [show lotS cl (wLine wr :: T) (i + 2) "writes" = .ok wr by rw [lotS, if_pos rfl, if_pos hw]]
theorem lotS_bad {cl ws : List Str} {T : List (List Str)} {i : Nat} {x : Str} (h : ws ≠ inSeq cl ws) : lotS cl ((x :: ws) :: T) i x = .error (i + 1) := by
  rw [lotS, if_pos rfl, if_neg h]
theorem inSeq_nil {cl : List Str} : inSeq cl [] = [] := by
  unfold inSeq
  exact List.filter_eq_nil_iff.mpr fun c _ => by simp
theorem inSeq_none {cl ms : List Str} (h : ∀ m ∈ ms, m ∉ cl) : inSeq cl ms = [] := by
  unfold inSeq
  exact List.filter_eq_nil_iff.mpr fun c hc => by simpa using fun z => h c z hc
end WB
namespace DL
open PySem L2
/-- a loop that makes one list longer -/
theorem for_ext {α : Type} (xs : List α) (e : α → D) (F : α → List D) (i j : Nat) {base : List D} {s0 : Sl} {env1 : Env} {g : AG} {wb : AS} {A : AEnds} (h0 : env1[i]? = some (.own base)) (hj : env1[j]? = some s0) (hij : i ≠ j)
    (hs : ∀ done x rest s, xs = done ++ x :: rest → g (e x) ((env1.set i (.own (base ++ done.flatMap F))).set j s) fun env2 => wb env2 { A with nx := fun env' => ∃ s, env' = (env1.set i (.own ((base ++ done.flatMap F) ++ F x))).set j s, ct := fun env' => ∃ s, env' = (env1.set i (.own ((base ++ done.flatMap F) ++ F x))).set j s, bk := A.nx })
    (hq : ∀ s, A.nx ((env1.set i (.own (base ++ xs.flatMap F))).set j s)) : ∃ Inv : Nat → Env → Prop, Inv 0 env1 ∧ ForB (xs.map e) Inv g wb A := by
  refine ⟨fun n env' => ∃ s, env' = (env1.set i (.own (base ++ (xs.take n).flatMap F))).set j s, ⟨s0, ?_⟩, fun n d env' hd ⟨s, he⟩ => ?_, fun env' ⟨s, he⟩ => ?_⟩
  · refine List.ext_getElem? fun m => ?_
    simp only [List.take_zero, List.flatMap_nil, List.append_nil, List.getElem?_set, List.length_set]
    by_cases h : j = m
    · subst h
      have := (List.getElem?_eq_some_iff.mp hj).1
      simp only [this, if_true, hj, List.getElem?_set, List.length_set]
    · by_cases h2 : i = m
      · subst h2
        have := (List.getElem?_eq_some_iff.mp h0).1
        simp only [this, if_true, h, if_false, h0]
      · simp only [h, h2, if_false]
  · rw [List.getElem?_map] at hd
    obtain ⟨x, hx, rfl⟩ := Option.map_eq_some_iff.mp hd
    have hn := (List.getElem?_eq_some_iff.mp hx).1
    have hx2 : xs[n] = x := (List.getElem?_eq_some_iff.mp hx).2
    have e3 : (xs.take (n + 1)).flatMap F = (xs.take n).flatMap F ++ F x := by
      rw [List.take_add_one, hx]
      simp
    rw [he]
    show g (e x) _ fun env2 => wb env2 { A with nx := fun env' => ∃ s, env' = (env1.set i (.own (base ++ (xs.take (n + 1)).flatMap F))).set j s, ct := fun env' => ∃ s, env' = (env1.set i (.own (base ++ (xs.take (n + 1)).flatMap F))).set j s, bk := A.nx }
    rw [e3, ← List.append_assoc]
    exact hs (xs.take n) x (xs.drop (n + 1)) s (by rw [← hx2, ← List.drop_eq_getElem_cons hn, List.take_append_drop])
  · rw [List.length_map, List.take_length] at he
    rw [he]
    exact hq s
theorem lc_fm2 {α : Type} (xs : List α) (e : α → D) (p : α → Bool) (f : α → D) {ds : List D} {g : AG} {t : AT} {w : AE} {vs : List Nat} {e1 e0 : Env} {Q : List D → Env → Prop} (hds : ds = xs.map e) (h0 : e0 = wipeE e1 vs) (hl : xs.length ≤ sizeLine)
    (hs : ∀ x ∈ xs, ∀ (acc : List D) (G : List D → Env → Prop), acc.length < sizeLine → G (if p x = true then acc ++ [f x] else acc) e0 → g (e x) e0 fun env2 => t env2 (fun b env3 => if b = true then w env3 (fun y env4 => acc.length < sizeLine ∧ G (acc ++ [y]) (wipeE env4 vs)) X0 else G acc (wipeE env3 vs)) X0)
    (hq : Q ((xs.filter p).map f) (restE e1 e0 vs)) : ∃ Inv : Nat → List D → Env → Prop, Inv 0 [] e0 ∧ LcB ds Inv g t w vs e1 Q := hds ▸ lc_fm xs e p f h0 hl hs hq
theorem flatMap_le {α : Type} {F : α → List D} {M : Nat} (h : ∀ x, (F x).length ≤ M) : ∀ l : List α, (l.flatMap F).length ≤ l.length * M
  | [] => by simp
  | x :: l => by
    have h1 := h x
    have h2 := flatMap_le h l
    rw [List.flatMap_cons, List.length_append, List.length_cons, Nat.succ_mul]
    omega
end DL
set_option Elab.async false
set_option linter.all false
set_option maxRecDepth 100000
set_option maxHeartbeats 4000000
namespace WB
open PySem PySem.Spec PyProof.Rows L2 DL TL
/-! ### words and lines that are short -/
structure Wd (w : Str) : Prop where
  pl : Plain w
  ok : PyData.strOk w = true
  le : w.length ≤ 10
def wdB (w : Str) : Bool := decide (32 ∉ tl w) && decide (10 ∉ tl w) && PyData.strOk w && decide (w.length ≤ 10)
theorem wd_of {w : Str} (h : wdB w = true) : Wd w := by
  unfold wdB at h
  simp only [Bool.and_eq_true, decide_eq_true_eq] at h
  exact ⟨⟨h.1.1.1, h.1.1.2⟩, h.1.2, h.2⟩
theorem isName_wd {w : Str} (h : isName w = true) (h2 : PyData.strOk w = true) : Wd w := ⟨isName_plain h, h2, by
  unfold isName at h
  simp only [Bool.and_eq_true, decide_eq_true_eq] at h
  omega⟩
structure LineB (ws : List Str) : Prop where
  ne : ws ≠ []
  le : ws.length ≤ 10
  wd : ∀ w ∈ ws, Wd w
def Part (L : List (List Str)) : Prop := ∀ ws ∈ L, LineB ws
theorem Part.nil : Part [] := fun _ h => nomatch h
theorem Part.cons {l : List Str} {L : List (List Str)} (h : LineB l) (h2 : Part L) : Part (l :: L) := fun ws hw => by
  rcases List.mem_cons.mp hw with rfl | hw
  · exact h
  · exact h2 ws hw
theorem Part.app {L M : List (List Str)} (h : Part L) (h2 : Part M) : Part (L ++ M) := fun ws hw => by
  rcases List.mem_append.mp hw with hw | hw
  · exact h ws hw
  · exact h2 ws hw
theorem Part.take {L : List (List Str)} {n : Nat} (h : Part L) : Part (L.take n) := fun ws hw => h ws (List.mem_of_mem_take hw)
theorem LineB.of {w : Str} {ws : List Str} (h : Wd w) (h2 : ∀ x ∈ ws, Wd x) (hl : ws.length ≤ 9) : LineB (w :: ws) := ⟨by simp, by simp; omega, fun x hx => by
  rcases List.mem_cons.mp hx with rfl | hx
  · exact h
  · exact h2 x hx⟩
theorem wds_nil : ∀ x ∈ ([] : List Str), Wd x := fun _ h => nomatch h
theorem wds_cons {w : Str} {ws : List Str} (h : Wd w) (h2 : ∀ x ∈ ws, Wd x) : ∀ x ∈ w :: ws, Wd x := fun x hx => by
  rcases List.mem_cons.mp hx with rfl | hx
  · exact h
  · exact h2 x hx
theorem joinL_le : ∀ {parts : List (List Nat)} {S : List Nat} {M : Nat}, (∀ p ∈ parts, p.length ≤ M) → (joinL S parts).length ≤ parts.length * (M + S.length)
  | [], _, _, _ => by simp [joinL]
  | [q], S, M, h => by
    have := h q (List.mem_singleton.mpr rfl)
    simp only [joinL, List.length_singleton, Nat.one_mul]
    omega
  | q :: r :: rest, S, M, h => by
    have h1 := h q List.mem_cons_self
    have h2 := joinL_le (parts := r :: rest) (S := S) (M := M) fun p hp => h p (List.mem_cons_of_mem _ hp)
    simp only [joinL, List.length_append]
    rw [List.length_cons (a := q), Nat.succ_mul]
    omega
theorem joinL_ok {parts : List (List Nat)} {S : List Nat} (h : ∀ p ∈ parts, ∀ c ∈ p, c < 0x110000) (hS : ∀ c ∈ S, c < 0x110000) : ∀ c ∈ joinL S parts, c < 0x110000 := fun c hc => by
  rcases joinL_mem hc with hc | ⟨p, hp, hc⟩
  · exact hS c hc
  · exact h p hp c hc
theorem LineB.ln {ws : List Str} (h : LineB ws) : PyData.strOk (ln ws) = true ∧ (WB.ln ws).length ≤ 120 := by
  unfold WB.ln
  refine ⟨ok_iff.mpr ?_, ?_⟩
  · rw [join_eq, tl_join, tl_sp]
    refine joinL_ok (fun p hp => ?_) (by simp)
    obtain ⟨w, hw, rfl⟩ := List.mem_map.mp hp
    exact ok_iff.mp (h.wd w hw).ok
  · rw [← tl_len, join_eq, tl_join, tl_sp]
    have e := joinL_le (parts := ws.map tl) (S := [32]) (M := 10) fun p hp => by
      obtain ⟨w, hw, rfl⟩ := List.mem_map.mp hp
      rw [tl_len]
      exact (h.wd w hw).le
    have := h.le
    rw [List.length_map] at e
    have e2 : ([32] : List Nat).length = 1 := rfl
    rw [e2] at e
    omega
theorem Part.lines {L : List (List Str)} (h : Part L) (h0 : L ≠ []) : Lines L := ⟨h0, fun ws hw => (h ws hw).ne, fun ws hw w hx => ((h ws hw).wd w hx).pl⟩
theorem Part.tx {L : List (List Str)} (h : Part L) (hl : L.length ≤ 80) : Tx (txt L) := by
  unfold txt
  refine ⟨ok_iff.mpr ?_, ?_⟩
  · rw [join_eq, tl_join, tl_nl]
    refine joinL_ok (fun p hp => ?_) (by simp)
    obtain ⟨l, hl, rfl⟩ := List.mem_map.mp hp
    obtain ⟨ws, hw, rfl⟩ := List.mem_map.mp hl
    exact ok_iff.mp (h ws hw).ln.1
  · rw [← tl_len, join_eq, tl_join, tl_nl]
    have e := joinL_le (parts := (L.map WB.ln).map tl) (S := [10]) (M := 120) fun p hp => by
      obtain ⟨l, hl, rfl⟩ := List.mem_map.mp hp
      obtain ⟨ws, hw, rfl⟩ := List.mem_map.mp hl
      rw [tl_len]
      exact (h ws hw).ln.2
    rw [List.length_map, List.length_map] at e
    have e2 : ([10] : List Nat).length = 1 := rfl
    rw [e2] at e
    omega
end WB
namespace K03
open PySem PySem.Spec PyProof.Rows L2 DL WB TL
/-! ### the law's rows -/
abbrev Row := List (List Str) × Option Nat
def RowOk (r : Row) : Prop := Part r.1 ∧ r.1 ≠ [] ∧ r.1.length ≤ 80 ∧ match r.2 with
  | none => ∃ b, readW r.1 = .ok b
  | some n => readW r.1 = .error n
abbrev tailT : List (List Str) := [kLine "hand", lLine [], wLine []]
def kind3 (n0 : Str) (x : Str) : List (List Str) := [kLine x, lLine [n0], wLine []]
def K4 (n0 : Str) : List (List Str) := kind3 n0 "hand" ++ kind3 n0 "clerk" ++ kind3 n0 "one" ++ kind3 n0 "two"
def badLots (n0 n1 n8 : Str) : List (List Str) := [[n1, n0], [n0, n0], [n8], [""], [n0, ""]]
def rows1 (n0 n1 : Str) (cl : List Str) (n8 : Str) (qs : List PStr) (a b : Str) : List Row :=
  [(cLine [n0] :: tailT, some 1), (cLine [n0, n1] :: tailT, none), (cLine cl :: tailT, none), (cLine (cl ++ [n8]) :: tailT, some 1),
   (cLine cl :: (qs.map rivalLine ++ tailT), none), (cLine cl :: (qs.map rivalLine ++ rivalLine (b, a) :: tailT), some 30),
   (cLine cl :: rivalLine (a, b) :: rivalLine (a, b) :: tailT, some 3), (cLine cl :: rivalLine (a, a) :: tailT, some 2), (cLine cl :: rivalLine (a, n8) :: tailT, some 2)]
def rows2 (n0 : Str) (cl : List Str) : List Row :=
  [(cLine cl :: K4 n0, none), (cLine cl :: (K4 n0 ++ [kLine "three", lLine [], wLine []]), some 14), (cLine cl :: ((K4 n0).take 3 ++ (K4 n0).take 3), some 5), (cLine cl :: ((K4 n0).take 3 ++ [kLine "two"]), some 6),
   (cLine cl :: (K4 n0).take 2, some 4), (cLine cl :: [kLine "eightsig", lLine [], wLine []], none), (cLine cl :: [kLine "ninesigns", lLine [], wLine []], some 2),
   (cLine ["eightsig", n0] :: tailT, none), (cLine ["ninesigns", n0] :: tailT, some 1)]
def rowsLot (cl : List Str) (lot : List Str) : List Row := [(cLine cl :: [kLine "hand", lLine lot, wLine []], some 3), (cLine cl :: [kLine "hand", lLine [], wLine lot], some 4)]
def rows4 (cl : List Str) (qs : List PStr) : List Row :=
  [([cLine cl], some 2), (cLine cl :: qs.map rivalLine, some 30), (cLine cl :: (tailT ++ (qs.map rivalLine).take 1), some 5), (cLine cl :: lLine [] :: tailT, some 2)]
def pool : List Str := ["oil", "bank", "mill", "rail", "a", "b", "clients", "rivals", "kind", "looks", "pair", "house", "zzzzzzzz", "writes"]
theorem pool_name {n : Str} (h : n ∈ pool) : isName n = true := List.all_eq_true.mp (by decide +kernel : pool.all isName = true) n h
theorem pool_wd {n : Str} (h : n ∈ pool) : Wd n := wd_of (List.all_eq_true.mp (by decide +kernel : pool.all wdB = true) n h)
theorem pool_ne {n x : Str} (h : n ∈ pool) (hx : pool.all (fun m => decide (m ≠ x)) = true) : n ≠ x := by
  have := List.all_eq_true.mp hx n h
  simpa using this
section
variable {n0 n1 n8 : Str} {cl : List Str} {qs : List PStr} {a b : Str}
theorem name_conds {x : Str} {ks : List Right} (h1 : ks.length < 4) (h2 : isName x = true) (h3 : x ∉ ks.map (·.1)) : ks.length < 4 ∧ isName x = true ∧ x ∉ ks.map (·.1) := ⟨h1, h2, h3⟩
/-- whole, with a tail -/
theorem read_tail (h : Cl cl) (hq : ∀ q ∈ qs, q ∈ pairsOf cl) (hd : qs.Nodup) : ∃ b, readW (cLine cl :: (qs.map rivalLine ++ tailT)) = .ok b := by
  rw [readW_kinds h hq hd (by show (Str.ofString "kind") ≠ _; decide +kernel), kS_one (by refine name_conds (by simp) (by decide +kernel) (by simp)) inSeq_nil.symm inSeq_nil.symm, kS_done (by simp)]
  exact ⟨_, rfl⟩
theorem read_kinds0 (h : Cl cl) {T : List (List Str)} (hT : NoRiv T) : readW (cLine cl :: T) = match kindsS cl (T.length + 2) T 1 [] with
      | .error n => .error n
      | .ok ks => .ok ⟨txt (cLine cl :: T), cl, [], ks⟩ := by
  have e := readW_kinds h (qs := []) (T := T) (fun _ z => nomatch z) List.nodup_nil hT
  simp only [List.map_nil, List.nil_append, List.length_nil, Nat.zero_add, Nat.add_zero] at e
  exact e
theorem norivK {x : Str} {T : List (List Str)} : NoRiv (kLine x :: T) := by show (Str.ofString "kind") ≠ _; decide +kernel
theorem wClients : Wd "clients" := wd_of (by decide +kernel)
theorem wKind : Wd "kind" := wd_of (by decide +kernel)
theorem wLooks : Wd "looks" := wd_of (by decide +kernel)
theorem wWrites : Wd "writes" := wd_of (by decide +kernel)
theorem wRivals : Wd "rivals" := wd_of (by decide +kernel)
theorem lbK {x : Str} (h : Wd x) : LineB (kLine x) := .of wKind (wds_cons h wds_nil) (by simp)
theorem lbL {lo : List Str} (h : ∀ x ∈ lo, Wd x) (hl : lo.length ≤ 9) : LineB (lLine lo) := .of wLooks h hl
theorem lbW {lo : List Str} (h : ∀ x ∈ lo, Wd x) (hl : lo.length ≤ 9) : LineB (wLine lo) := .of wWrites h hl
theorem lbC {lo : List Str} (h : ∀ x ∈ lo, Wd x) (hl : lo.length ≤ 9) : LineB (cLine lo) := .of wClients h hl
theorem lbR {p : PStr} (h1 : Wd p.1) (h2 : Wd p.2) : LineB (rivalLine p) := .of wRivals (wds_cons h1 (wds_cons h2 wds_nil)) (by simp)
theorem part_tail : Part tailT := .cons (lbK (wd_of (by decide +kernel))) (.cons (lbL wds_nil (by simp)) (.cons (lbW wds_nil (by simp)) .nil))
theorem part_kind3 {x : Str} (h0 : Wd n0) (hx : Wd x) : Part (kind3 n0 x) := .cons (lbK hx) (.cons (lbL (wds_cons h0 wds_nil) (by simp)) (.cons (lbW wds_nil (by simp)) .nil))
theorem part_K4 (h0 : Wd n0) : Part (K4 n0) := (((part_kind3 h0 (wd_of (by decide +kernel))).app (part_kind3 h0 (wd_of (by decide +kernel)))).app (part_kind3 h0 (wd_of (by decide +kernel)))).app (part_kind3 h0 (wd_of (by decide +kernel)))
theorem part_R (h : ∀ c ∈ cl, Wd c) (hq : ∀ q ∈ qs, q ∈ pairsOf cl) : Part (qs.map rivalLine) := fun ws hw => by
  obtain ⟨q, hm, rfl⟩ := List.mem_map.mp hw
  have := pairsOf_mem (hq q hm)
  exact lbR (h _ this.1) (h _ this.2)
/-- what is drawn -/
structure Drawn (n0 n1 n8 : Str) (cl : List Str) (qs : List PStr) (a b : Str) : Prop where
  pool : ∀ n ∈ cl ++ [n8], n ∈ pool
  nd : (cl ++ [n8]).Nodup
  len : cl.length = 8
  first : ∃ r, cl = n0 :: n1 :: r
  prm : qs.Perm (pairsOf cl)
  q28 : qs.length = 28
  ab : (a, b) ∈ qs
theorem Drawn.good (D : Drawn n0 n1 n8 cl qs a b) : Cl cl := ⟨by rw [D.len]; decide, by rw [D.len]; decide, fun c hc => pool_name (D.pool c (List.mem_append_left _ hc)), (List.nodup_append.mp D.nd).1⟩
theorem Drawn.wd (D : Drawn n0 n1 n8 cl qs a b) : ∀ c ∈ cl, Wd c := fun c hc => pool_wd (D.pool c (List.mem_append_left _ hc))
theorem Drawn.m0 (D : Drawn n0 n1 n8 cl qs a b) : n0 ∈ cl := by obtain ⟨r, rfl⟩ := D.first; simp
theorem Drawn.m1 (D : Drawn n0 n1 n8 cl qs a b) : n1 ∈ cl := by obtain ⟨r, rfl⟩ := D.first; simp
theorem Drawn.n01 (D : Drawn n0 n1 n8 cl qs a b) : n0 ≠ n1 := fun z => by
  obtain ⟨r, e⟩ := D.first
  have := D.good.nd
  rw [e, z] at this
  simp at this
theorem Drawn.w8 (D : Drawn n0 n1 n8 cl qs a b) : Wd n8 := pool_wd (D.pool n8 (by simp))
theorem Drawn.no8 (D : Drawn n0 n1 n8 cl qs a b) : n8 ∉ cl := fun z => (List.nodup_append.mp D.nd).2.2 _ z _ (List.mem_singleton.mpr rfl) rfl
theorem pairsOf_nodup : ∀ {l : List Str}, l.Nodup → (pairsOf l).Nodup
  | [], _ => List.nodup_nil
  | x :: r, h => by
    obtain ⟨h1, h2⟩ := List.nodup_cons.mp h
    refine List.nodup_append.mpr ⟨?_, pairsOf_nodup h2, ?_⟩
    · exact List.Pairwise.map _ (fun a b (z : a ≠ b) e => z (Prod.mk.inj e).2) h2
    · rintro p hp q hq rfl
      obtain ⟨y, hy, rfl⟩ := List.mem_map.mp hp
      exact h1 (pairsOf_mem hq).1
theorem Drawn.hq (D : Drawn n0 n1 n8 cl qs a b) : ∀ q ∈ qs, q ∈ pairsOf cl := fun q h => D.prm.mem_iff.mp h
theorem Drawn.hd (D : Drawn n0 n1 n8 cl qs a b) : qs.Nodup := D.prm.nodup_iff.mpr (pairsOf_nodup D.good.nd)
theorem one_seq (D : Drawn n0 n1 n8 cl qs a b) : [n0] = inSeq cl [n0] := (inSeq_one D.good.nd D.m0).symm
theorem seq2 {x y : Str} (D : Drawn n0 n1 n8 cl qs a b) : inSeq cl [x, x] = inSeq cl [x] := inSeq_congr fun c _ => by simp
theorem rows1_ok (D : Drawn n0 n1 n8 cl qs a b) : ∀ r ∈ rows1 n0 n1 cl n8 qs a b, RowOk r := by
  have hcl := D.good
  have hab := pairsOf_mem (D.hq _ D.ab)
  have wa := D.wd _ hab.1
  have wb := D.wd _ hab.2
  have pc : LineB (cLine cl) := lbC D.wd (by have := D.len; omega)
  have w0 := D.wd _ D.m0
  have w1 := D.wd _ D.m1
  have hne : a ≠ b := fun z => by
    have : ∀ {l : List Str}, l.Nodup → ∀ p ∈ pairsOf l, p.1 ≠ p.2 := by
      intro l
      induction l with
      | nil => intro _ p h; cases h
      | cons x r ih =>
        intro h p hp
        obtain ⟨h1, h2⟩ := List.nodup_cons.mp h
        rcases List.mem_append.mp hp with hp | hp
        · obtain ⟨y, hy, rfl⟩ := List.mem_map.mp hp
          exact fun e => h1 ((show x = y from e) ▸ hy)
        · exact ih h2 p hp
    exact this hcl.nd _ (D.hq _ D.ab) z
  unfold rows1
  intro r hr
  simp only [List.mem_cons, List.not_mem_nil, or_false] at hr
  rcases hr with rfl | rfl | rfl | rfl | rfl | rfl | rfl | rfl | rfl
  · exact ⟨.cons (lbC (wds_cons w0 wds_nil) (by simp)) part_tail, by simp, by simp, readW_bad _ fun z => by simp at z⟩
  · refine ⟨.cons (lbC (wds_cons w0 (wds_cons w1 wds_nil)) (by simp)) part_tail, by simp, by simp, ?_⟩
    exact read_tail (qs := []) ⟨by simp, by simp, fun c hc => by
      simp only [List.mem_cons, List.not_mem_nil, or_false] at hc
      rcases hc with rfl | rfl
      · exact hcl.nm _ D.m0
      · exact hcl.nm _ D.m1, by simp [D.n01]⟩ (fun _ z => nomatch z) List.nodup_nil
  · exact ⟨.cons pc part_tail, by simp, by simp, read_tail (qs := []) hcl (fun _ z => nomatch z) List.nodup_nil⟩
  · refine ⟨.cons (lbC (fun x hx => ?_) (by rw [List.length_append, D.len]; exact Nat.le_refl 9)) part_tail, by simp, by simp, readW_bad _ fun z => by
      have := z.2.1
      rw [List.length_append, D.len] at this
      simp at this⟩
    exact pool_wd (D.pool x hx)
  · exact ⟨.cons pc ((part_R D.wd D.hq).app part_tail), by simp, by simp [D.q28], read_tail hcl D.hq D.hd⟩
  · refine ⟨.cons pc ((part_R D.wd D.hq).app (.cons (lbR wb wa) part_tail)), by simp, by simp [D.q28], ?_⟩
    show readW _ = _
    rw [readW_rivals hcl D.hq D.hd, rivals_bad, D.q28]
    intro x y a' b' e e2
    cases e
    rw [inSeq_swap, inSeq_pair hcl.nd (D.hq _ D.ab)] at e2
    cases e2
    exact D.ab
  · refine ⟨.cons pc (.cons (lbR wa wb) (.cons (lbR wa wb) part_tail)), by simp, by simp, ?_⟩
    show readW _ = _
    have e := readW_rivals (qs := [(a, b)]) (T := rivalLine (a, b) :: tailT) hcl (fun q hq => by rw [List.mem_singleton.mp hq]; exact D.hq _ D.ab) (by simp)
    rw [rivals_bad (fun x y a' b' e e2 => by
      cases e
      rw [inSeq_pair hcl.nd (D.hq _ D.ab)] at e2
      cases e2
      exact List.mem_singleton.mpr rfl)] at e
    exact e
  · refine ⟨.cons pc (.cons (lbR wa wa) part_tail), by simp, by simp, ?_⟩
    show readW _ = _
    have e := readW_rivals (qs := []) (T := rivalLine (a, a) :: tailT) hcl (fun _ z => nomatch z) (by simp)
    rw [rivals_bad (fun x y a' b' e e2 => by
      cases e
      rw [show inSeq cl [a, a] = inSeq cl [a] from inSeq_congr fun c _ => by simp, inSeq_one hcl.nd hab.1] at e2
      cases e2)] at e
    exact e
  · refine ⟨.cons pc (.cons (lbR wa D.w8) part_tail), by simp, by simp, ?_⟩
    show readW _ = _
    have e := readW_rivals (qs := []) (T := rivalLine (a, n8) :: tailT) hcl (fun _ z => nomatch z) (by simp)
    rw [rivals_bad (fun x y a' b' e e2 => by
      cases e
      rw [show inSeq cl [a, n8] = inSeq cl [a] from inSeq_congr fun c hc => by
        have : c ≠ n8 := fun z => D.no8 (z ▸ hc)
        simp [this], inSeq_one hcl.nd hab.1] at e2
      cases e2)] at e
    exact e
theorem row_err {T : List (List Str)} {n : Nat} (h : Cl cl) (hp : Part (cLine cl :: T)) (hl : T.length ≤ 70) (hT : NoRiv T) (he : kindsS cl (T.length + 2) T 1 [] = .error n) : RowOk (cLine cl :: T, some n) := ⟨hp, by simp, by simp; omega, by
  show readW _ = _
  rw [read_kinds0 h hT, he]⟩
theorem row_ok {T : List (List Str)} {ks : List Right} (h : Cl cl) (hp : Part (cLine cl :: T)) (hl : T.length ≤ 70) (hT : NoRiv T) (he : kindsS cl (T.length + 2) T 1 [] = .ok ks) : RowOk (cLine cl :: T, none) := ⟨hp, by simp, by simp; omega, by
  show ∃ b, readW _ = _
  rw [read_kinds0 h hT, he]
  exact ⟨_, rfl⟩⟩
theorem rows2_ok (D : Drawn n0 n1 n8 cl qs a b) : ∀ r ∈ rows2 n0 cl, RowOk r := by
  have hcl := D.good
  have pc : LineB (cLine cl) := lbC D.wd (by have := D.len; omega)
  have w0 := D.wd _ D.m0
  have s1 : [n0] = inSeq cl [n0] := (inSeq_one hcl.nd D.m0).symm
  have s0 : [] = inSeq cl [] := inSeq_nil.symm
  have p3 := part_K4 w0
  unfold rows2
  intro r hr
  simp only [List.mem_cons, List.not_mem_nil, or_false] at hr
  rcases hr with rfl | rfl | rfl | rfl | rfl | rfl | rfl | rfl | rfl
  · refine row_ok (ks := [("hand", [n0], []), ("clerk", [n0], []), ("one", [n0], []), ("two", [n0], [])]) hcl (.cons pc p3) (by simp [K4, kind3]) norivK ?_
    simp only [K4, kind3, List.cons_append, List.nil_append, List.length_cons, List.length_nil]
    rw [kS_one (name_conds (by decide) (by decide +kernel) (by decide +kernel)) s1 s0, kS_one (name_conds (by simp) (by decide +kernel) (by simp; decide +kernel)) s1 s0, kS_one (name_conds (by simp) (by decide +kernel) (by simp; decide +kernel)) s1 s0, kS_one (name_conds (by simp) (by decide +kernel) (by simp; decide +kernel)) s1 s0, kS_done (by simp)]
    rfl
  · refine row_err hcl (.cons pc (p3.app (.cons (lbK (wd_of (by decide +kernel))) (.cons (lbL wds_nil (by simp)) (.cons (lbW wds_nil (by simp)) .nil))))) (by simp [K4, kind3]) norivK ?_
    simp only [K4, kind3, List.cons_append, List.nil_append, List.length_cons, List.length_nil]
    rw [kS_one (name_conds (by decide) (by decide +kernel) (by decide +kernel)) s1 s0, kS_one (name_conds (by simp) (by decide +kernel) (by simp; decide +kernel)) s1 s0, kS_one (name_conds (by simp) (by decide +kernel) (by simp; decide +kernel)) s1 s0, kS_one (name_conds (by simp) (by decide +kernel) (by simp; decide +kernel)) s1 s0, kS_kind fun x _ z => by simp at z]
  · refine row_err hcl (.cons pc (p3.take.app p3.take)) (by simp [K4, kind3]) norivK ?_
    simp only [K4, kind3, List.cons_append, List.nil_append, List.length_cons, List.length_nil, List.take_succ_cons, List.take_zero]
    rw [kS_one (name_conds (by decide) (by decide +kernel) (by decide +kernel)) s1 s0, kS_kind fun x e z => by cases e; simp at z]
  · refine row_err hcl (.cons pc (p3.take.app (.cons (lbK (wd_of (by decide +kernel))) .nil))) (by simp [K4, kind3]) norivK ?_
    simp only [K4, kind3, List.cons_append, List.nil_append, List.length_cons, List.length_nil, List.take_succ_cons, List.take_zero]
    rw [kS_one (name_conds (by decide) (by decide +kernel) (by decide +kernel)) s1 s0, kS_looks (name_conds (by simp) (by decide +kernel) (by simp; decide +kernel)) rfl]
  · refine row_err hcl (.cons pc p3.take) (by simp [K4, kind3]) norivK ?_
    simp only [K4, kind3, List.cons_append, List.nil_append, List.length_cons, List.length_nil, List.take_succ_cons, List.take_zero]
    rw [kS_writes (name_conds (by decide) (by decide +kernel) (by decide +kernel)) s1 rfl]
  · refine row_ok (ks := [("eightsig", [], [])]) hcl (.cons pc (.cons (lbK (wd_of (by decide +kernel))) (.cons (lbL wds_nil (by simp)) (.cons (lbW wds_nil (by simp)) .nil)))) (by simp [K4, kind3]) norivK ?_
    rw [kS_one (name_conds (by decide) (by decide +kernel) (by decide +kernel)) s0 s0, kS_done (by simp)]
    rfl
  · refine row_err hcl (.cons pc (.cons (lbK (wd_of (by decide +kernel))) (.cons (lbL wds_nil (by simp)) (.cons (lbW wds_nil (by simp)) .nil)))) (by simp [K4, kind3]) norivK ?_
    exact kS_kind fun x e z => by
      cases e
      exact absurd z.2.1 (by decide +kernel)
  · refine row_ok (ks := [("hand", [], [])]) ⟨by simp, by simp, fun c hc => ?_, ?_⟩ (.cons (lbC (wds_cons (wd_of (by decide +kernel)) (wds_cons w0 wds_nil)) (by simp)) part_tail) (by simp [K4, kind3]) norivK ?_
    · simp only [List.mem_cons, List.not_mem_nil, or_false] at hc
      rcases hc with rfl | rfl
      · decide +kernel
      · exact hcl.nm _ D.m0
    · have : n0 ≠ Str.ofString "eightsig" := pool_ne (D.pool _ (List.mem_append_left _ D.m0)) (by decide +kernel)
      simp [this.symm]
    · rw [kS_one (name_conds (by decide) (by decide +kernel) (by decide +kernel)) inSeq_nil.symm inSeq_nil.symm, kS_done (by simp)]
      rfl
  · refine ⟨.cons (lbC (wds_cons (wd_of (by decide +kernel)) (wds_cons w0 wds_nil)) (by simp)) part_tail, by simp, by simp, readW_bad _ fun z => ?_⟩
    have h := z.2.2
    unfold areNames at h
    rw [List.all_cons, show isName (Str.ofString "ninesigns") = false by decide +kernel] at h
    simp at h
theorem rowsLot_ok (D : Drawn n0 n1 n8 cl qs a b) : ∀ lot ∈ badLots n0 n1 n8, ∀ r ∈ rowsLot cl lot, RowOk r := by
  have hcl := D.good
  have pc : LineB (cLine cl) := lbC D.wd (by have := D.len; omega)
  have w0 := D.wd _ D.m0
  have w1 := D.wd _ D.m1
  have wh : Wd "hand" := wd_of (by decide +kernel)
  have we : Wd "" := wd_of (by decide +kernel)
  have he : Str.ofString "" ∉ cl := fun z => absurd (hcl.nm _ z) (by decide +kernel)
  have s0 : [] = inSeq cl [] := inSeq_nil.symm
  have p01 : (n0, n1) ∈ pairsOf cl := by obtain ⟨r, rfl⟩ := D.first; simp [WB.pairsOf]
  intro lot hl
  have h : lot ≠ inSeq cl lot ∧ (∀ x ∈ lot, Wd x) ∧ lot.length ≤ 9 := by
    unfold badLots at hl
    simp only [List.mem_cons, List.not_mem_nil, or_false] at hl
    rcases hl with rfl | rfl | rfl | rfl | rfl
    · refine ⟨?_, wds_cons w1 (wds_cons w0 wds_nil), by simp⟩
      rw [inSeq_swap, inSeq_pair hcl.nd p01]
      intro z
      exact D.n01 (List.cons.inj z).1.symm
    · refine ⟨?_, wds_cons w0 (wds_cons w0 wds_nil), by simp⟩
      rw [show inSeq cl [n0, n0] = inSeq cl [n0] from inSeq_congr fun c _ => by simp, inSeq_one hcl.nd D.m0]
      simp
    · refine ⟨?_, wds_cons D.w8 wds_nil, by simp⟩
      rw [inSeq_none fun m hm => by rw [List.mem_singleton.mp hm]; exact D.no8]
      simp
    · refine ⟨?_, wds_cons we wds_nil, by simp⟩
      rw [inSeq_none fun m hm => by rw [List.mem_singleton.mp hm]; exact he]
      simp
    · refine ⟨?_, wds_cons w0 (wds_cons we wds_nil), by simp⟩
      rw [show inSeq cl [n0, Str.ofString ""] = inSeq cl [n0] from inSeq_congr fun c hc => by
        have : c ≠ Str.ofString "" := fun z => he (z ▸ hc)
        simp [this], inSeq_one hcl.nd D.m0]
      simp
  unfold rowsLot
  intro r hr
  simp only [List.mem_cons, List.not_mem_nil, or_false] at hr
  rcases hr with rfl | rfl
  · refine row_err hcl (.cons pc (.cons (lbK wh) (.cons (lbL h.2.1 h.2.2) (.cons (lbW wds_nil (by simp)) .nil)))) (by simp) norivK ?_
    rw [kS_looks (name_conds (by decide) (by decide +kernel) (by decide +kernel)) (lotS_bad h.1)]
  · refine row_err hcl (.cons pc (.cons (lbK wh) (.cons (lbL wds_nil (by simp)) (.cons (lbW h.2.1 h.2.2) .nil)))) (by simp) norivK ?_
    rw [kS_writes (name_conds (by decide) (by decide +kernel) (by decide +kernel)) s0 (lotS_bad h.1)]
theorem rows4_ok (D : Drawn n0 n1 n8 cl qs a b) : ∀ r ∈ rows4 cl qs, RowOk r := by
  have hcl := D.good
  have pc : LineB (cLine cl) := lbC D.wd (by have := D.len; omega)
  have s0 : [] = inSeq cl [] := inSeq_nil.symm
  unfold rows4
  intro r hr
  simp only [List.mem_cons, List.not_mem_nil, or_false] at hr
  rcases hr with rfl | rfl | rfl | rfl
  · exact row_err hcl (.cons pc .nil) (by simp) trivial kS_none
  · refine ⟨.cons pc (part_R D.wd D.hq), by simp, by simp [D.q28], ?_⟩
    have e := readW_kinds (T := []) hcl D.hq D.hd trivial
    rw [kS_none, D.q28, List.append_nil] at e
    exact e
  · refine row_err hcl (.cons pc (part_tail.app (part_R D.wd D.hq).take)) (by simp; omega) norivK ?_
    cases hq : qs with
    | nil => have := D.q28; rw [hq] at this; cases this
    | cons q r =>
      simp only [tailT, List.cons_append, List.nil_append, List.map_cons, List.take_succ_cons, List.take_zero, List.length_cons, List.length_nil]
      rw [kS_one (name_conds (by decide) (by decide +kernel) (by decide +kernel)) s0 s0, kS_kind fun x e z => by cases e]
  · refine row_err hcl (.cons pc (.cons (lbL wds_nil (by simp)) part_tail)) (by simp) (by show (Str.ofString "looks") ≠ _; decide +kernel) ?_
    exact kS_kind fun x e z => by cases e
end
/-! ### lines as the law makes them -/
theorem str_ext {a b : Str} (h : tl a = tl b) : a = b := by
  cases a; cases b
  unfold TL.tl at h
  congr 1
  exact Array.toList_inj.mp h
theorem slen (a b : Str) : (a ++ b).length = a.length + b.length := by rw [← tl_len, tl_append, List.length_append, tl_len, tl_len]
theorem rivB {a b : Str} (ha : Wd a) (hb : Wd b) : (Str.ofString "rivals ").length + a.length ≤ sizeLine ∧ (Str.ofString "rivals " ++ a).length + (Str.ofString " ").length ≤ sizeLine ∧ (Str.ofString "rivals " ++ a ++ Str.ofString " ").length + b.length ≤ sizeLine := by
  have h1 := ha.le
  have h2 := hb.le
  simp only [slen, show (Str.ofString "rivals ").length = 7 from rfl, show (Str.ofString " ").length = 1 from rfl]
  exact ⟨sl_big (by omega), sl_big (by omega), sl_big (by omega)⟩
theorem str_assoc (a b c : Str) : a ++ b ++ c = a ++ (b ++ c) := str_ext (by simp [tl_append])
theorem ln1 (w : Str) : ln [w] = w := by unfold ln; rw [join_eq]; rfl
theorem ln2 (w x : Str) (r : List Str) : ln (w :: x :: r) = w ++ sp ++ ln (x :: r) := by unfold ln; rw [join_eq, join_eq]; rfl
theorem lnJ (ws : List Str) : Txt.join (Str.ofString " ") ws = ln ws := rfl
theorem lnA {p w : Str} (h : p = w ++ sp) {ws : List Str} (h0 : ws ≠ []) : p ++ ln ws = ln (w :: ws) := by
  cases ws with
  | nil => exact absurd rfl h0
  | cons x r => rw [ln2, h]
theorem lnC {ws : List Str} (h0 : ws ≠ []) : Str.ofString "clients " ++ ln ws = ln (cLine ws) := lnA (by decide +kernel) h0
theorem lnC1 (x : Str) : Str.ofString "clients " ++ x = ln (cLine [x]) := by rw [← lnC (by simp), ln1]
theorem lnL {ws : List Str} (h0 : ws ≠ []) : Str.ofString "looks " ++ ln ws = ln (lLine ws) := lnA (by decide +kernel) h0
theorem lnL1 (x : Str) : Str.ofString "looks " ++ x = ln (lLine [x]) := by rw [← lnL (by simp), ln1]
theorem lnW {ws : List Str} (h0 : ws ≠ []) : Str.ofString "writes " ++ ln ws = ln (wLine ws) := lnA (by decide +kernel) h0
theorem lnK (x : Str) : Str.ofString "kind " ++ x = ln (kLine x) := by rw [← lnA (p := Str.ofString "kind ") (by decide +kernel) (by simp), ln1]
theorem lnR (a b : Str) : Str.ofString "rivals " ++ a ++ Str.ofString " " ++ b = ln (rivalLine (a, b)) := by
  rw [show ln (rivalLine (a, b)) = Str.ofString "rivals" ++ sp ++ (a ++ sp ++ b) by rw [ln2, ln2, ln1], show Str.ofString "rivals " = Str.ofString "rivals" ++ sp by decide +kernel]
  simp only [str_assoc]
  rfl
theorem lnP (a b : Str) : a ++ Str.ofString " " ++ b = ln [a, b] := by rw [ln2, ln1]; rfl
theorem lnE (a : Str) : a ++ Str.ofString " " = ln [a, ""] := by
  rw [ln2, ln1]
  exact str_ext (by simp [tl_append, sp, tl_ofString])
theorem lnL0 : Str.ofString "looks" = ln (lLine []) := (ln1 _).symm
theorem lnW0 : Str.ofString "writes" = ln (wLine []) := (ln1 _).symm
def dl (L : List (List Str)) : List D := L.map fun ws => D.str (ln ws)
theorem dl_len (L : List (List Str)) : (dl L).length = L.length := List.length_map ..
theorem dl_cons (l : List Str) (L : List (List Str)) : dl (l :: L) = D.str (ln l) :: dl L := rfl
theorem dl_app (L M : List (List Str)) : dl (L ++ M) = dl L ++ dl M := List.map_append
theorem dl_nil : dl [] = [] := rfl
theorem dl_tail : [D.str (Str.ofString "kind hand"), D.str (Str.ofString "looks"), D.str (Str.ofString "writes")] = dl tailT := by
  rw [show Str.ofString "kind hand" = Str.ofString "kind " ++ Str.ofString "hand" by decide +kernel, lnK, lnL0, lnW0]
  rfl
def cl8 (n0 n1 n2 n3 n4 n5 n6 n7 : Str) : List Str := [n0, n1, n2, n3, n4, n5, n6, n7]
theorem wds_len {ws : List Str} (h : ∀ w ∈ ws, Wd w) (h0 : ws ≠ []) (hl : ws.length ≤ 9) : (ws.map fun x => x.length).sum + ws.length * (Str.ofString " ").length ≤ 16777216 ∧ (Str.ofString "clients ").length + (ln ws).length ≤ sizeLine := by
  have h1 : LineB ws := ⟨h0, by omega, h⟩
  have h2 := h1.ln.2
  have h3 : ∀ {l : List Str}, (∀ w ∈ l, Wd w) → (l.map fun x => x.length).sum ≤ l.length * 10 := by
    intro l
    induction l with
    | nil => intro _; simp
    | cons x r ih =>
      intro h
      have h1 := (h x List.mem_cons_self).le
      have h2 := ih fun w hw => h w (List.mem_cons_of_mem _ hw)
      rw [List.map_cons, List.sum_cons, List.length_cons, Nat.succ_mul]
      omega
  have h4 := h3 h
  refine ⟨?_, sl_big ?_⟩
  · rw [show (Str.ofString " ").length = 1 from rfl]; omega
  · rw [show (Str.ofString "clients ").length = 8 from rfl]; omega
end K03
set_option Elab.async false
set_option linter.all false
set_option maxRecDepth 100000
set_option maxHeartbeats 4000000
/-! A text beside a dict. -/
namespace DLT
open PySem PySem.Spec PyProof.Rows
theorem str_no_dict (b : Str) (u : Tok) (l : Addr) (es : Array DictEntry) (ep : Nat) (c : Value) (dd : Option Addr) (sl : Array (Option Value)) :
    Meets (Builtin.«str.__eq__» ⟨[.str b u, .ref l], []⟩) (fun _ R s => s.heap.get? l = some { cls := c, dict := dd, data := .dict es ep, slots := sl } ∧ R (.ok (.ret .notImplemented)) s) :=
  .of_wp fun prog w A R s h => by
    obtain ⟨hp, g, d, tk, os⟩ := s
    obtain ⟨hl, h⟩ := h
    wp_walk using wpAny_loadPart' hl, wpAny_load hl
    exact ⟨_, rfl, h⟩
theorem dict_no_str (b : Str) (u : Tok) (l : Addr) (o : Obj) (hc : o.cls = .type "dict") :
    Meets (Builtin.«dict.__eq__» ⟨[.ref l, .str b u], []⟩) (fun _ R s => s.heap.get? l = some o ∧ R (.ok (.ret .notImplemented)) s) :=
  .of_wp fun prog w A R s h => by
    obtain ⟨hp, g, d, tk, os⟩ := s
    obtain ⟨hl, h⟩ := h
    have f1 := PySem.F.sub_str_dict
    obtain ⟨cls, dd, data, sl⟩ := o
    simp only at hc
    subst hc
    wp_walk using wpAny_loadPart' hl, wpAny_load hl
    exact ⟨_, rfl, h⟩
open PySem.SeqAt
section
variable {A : Around} {s : Shared}
theorem rc_str_dict {l : Addr} {o : Obj} {es : Array DictEntry} {ep : Nat} (b : Str) (u : Tok) (ho : s.heap.get? l = some o) (hc : o.cls = .type "dict") (hd : o.data = .dict es ep) (hu : A.units < cLine) : RcAt A s (.str b u) (.ref l) false := fun prog w E Q h => by
  obtain ⟨cls, dd, data, sl⟩ := o
  simp only at hc hd
  subst hc hd
  exact rc_eq_decline_or (k := false) (typeIs_str s b u) ⟨_, ho, rfl⟩ (by decide) PySem.F.sub_dict_str PySem.F.slot_str_eq PySem.F.slot_dict_eq_refl
    (fun _ hq => call_meets PySem.F.slot_str_eq (typeIs_str s b u) PySem.F.entry_str_eq (PySem.F.args_str_eq_2 _ _) (str_no_dict b u l es ep (.type "dict") dd sl) ⟨ho, hq⟩)
    (fun _ hq => call_meets PySem.F.slot_dict_eq_refl ⟨_, ho, rfl⟩ PySem.F.entry_dict_eq (PySem.F.args_dict_eq_2 _ _) (dict_no_str b u l _ rfl) ⟨ho, hq⟩)
    (fun _ hq => wpAny_of_eq (rfl : isSame (.str b u) (.ref l) = pure false) hq) (.inr hu) h
theorem eq_str_dict {l : Addr} {o : Obj} {es : Array DictEntry} {ep : Nat} (b : Str) (u : Tok) (ho : s.heap.get? l = some o) (hc : o.cls = .type "dict") (hd : o.data = .dict es ep) (hu : A.units < cLine) : EqAt A s (.str b u) (.ref l) false := fun prog w E Q h => by
  unfold eqBool
  refine wpAny_holding ?_
  refine wpAny_ite_split (fun hab => absurd (eq_of_beq hab) nofun) (fun _ => ?_)
  exact wpAny_bind (rc_str_dict b u ho hc hd hu prog w E _ (wpAny_truthy_bool h))
end
end DLT
namespace DL
open PySem PySem.Spec PyProof.Rows L2
section
variable {X : Cx} {τ : TBL} {c : Cn τ} {Wx : WX} {e a b d : Expr} {es : List Expr} {pos p p' apos cpos : Pos} {x : Str} {w : AA} {we wa wb wc : AE}
/-- is a value one of these texts -/
def memS (ms : List Str) : D → Bool
  | .str c => ms.contains c
  | _ => false
/-- in, not in: any data, among texts -/
def inS (neg : Bool) : R2D := fun x y k => ∃ ms : List Str, (y = .lst (ms.map D.str) ∨ y = .tup (ms.map D.str)) ∧ (∀ m ∈ ms, PyData.strOk m = true) ∧ ((∃ q, x.py = some q ∧ SeqAt.shaped q = true) ∨ ∃ ks ds, x = .dic ks ds) ∧ k (.bl (if neg then !memS ms x else memS ms x))
theorem pys_txts : ∀ ms : List Str, pys (ms.map D.str) = some (ms.map PyData.str)
  | [] => rfl
  | m :: ms => by rw [List.map_cons, List.map_cons, pys, D.py, pys_txts ms]
theorem lay_txts : ∀ {ms : List Str}, (∀ m ∈ ms, PyData.strOk m = true) → PyData.canLayAll0 (ms.map PyData.str) = true
  | [], _ => rfl
  | m :: ms, h => by
    rw [List.map_cons, PyData.canLayAll0, lay_txts fun x hx => h x (List.mem_cons_of_mem _ hx), PyData.canLay0, h m List.mem_cons_self]
    rfl
theorem any_mem {ms : List Str} {x : D} {q : PyData} (h : x.py = some q) (hs : SeqAt.shaped q = true) : ((ms.map PyData.str).any fun z => PyData.eqv z q) = memS ms x := by
  have no : (∀ c, q ≠ .str c) → ((ms.map PyData.str).any fun z => PyData.eqv z q) = false := fun hq => by
    rw [List.any_eq_false]
    intro z hz
    obtain ⟨m, _, rfl⟩ := List.mem_map.mp hz
    cases q with
    | str c => exact absurd rfl (hq c)
    | _ => simp [PyData.eqv]
  cases x with
  | str c =>
    cases h
    show _ = ms.contains c
    clear no hs
    induction ms with
    | nil => rfl
    | cons m ms ih =>
      rw [List.map_cons, List.any_cons, ih, List.contains_cons]
      congr 1
      show (m == c) = (c == m)
      exact Bool.eq_iff_iff.mpr ⟨fun h => by simp at h ⊢; exact h.symm, fun h => by simp at h ⊢; exact h.symm⟩
  | non => cases h; exact no fun c z => nomatch z
  | bl b => cases h; exact no fun c z => nomatch z
  | int i => cases h; exact no fun c z => nomatch z
  | tup ds =>
    refine no fun c z => ?_
    subst z
    unfold D.py at h
    obtain ⟨_, _, z⟩ := Option.map_eq_some_iff.mp h
    cases z
  | lst ds =>
    refine no fun c z => ?_
    subst z
    unfold D.py at h
    obtain ⟨_, _, z⟩ := Option.map_eq_some_iff.mp h
    cases z
  | dic ks ds =>
    refine no fun c z => ?_
    subst z
    unfold D.py at h
    split at h <;> simp at h
  | _ => exact no fun c z => by subst z; simp [D.py] at h
theorem opi_inS {neg : Bool} (hS : SysB X.base) (hu : X.A.units + 65 < cLine) : OpI X (compareOp (if neg then .NotIn else .In)) (inS neg) := by
  intro pins s σ H Av x y v u d1 d2 k Q I hl rx ry h1 h2 ⟨ms, ey, hms, hx, r⟩ kk
  rcases hx with ⟨q, e1, hs⟩ | ⟨ks, ds, rfl⟩
  · exact opi_in hS hu pins s σ H Av x y v u d1 d2 k Q I hl rx ry h1 h2 ⟨_, q, _, ey, e1, pys_txts ms, hs, lay_txts hms, by rw [any_mem e1 hs]; exact r⟩ kk
  · have allS : ∀ {ys : List Str} {us : List Value}, Vals (ys.map V.str) us → ∀ z ∈ us, ∃ t tk, z = .str t tk := by
      intro ys
      induction ys with
      | nil => intro us r z hz; cases r; cases hz
      | cons y ys ih =>
        intro us r z hz
        cases r with
        | cons r1 r2 =>
          rcases List.mem_cons.mp hz with rfl | hz
          · obtain ⟨tk, e⟩ := r1
            exact ⟨_, _, e⟩
          · exact ih r2 z hz
    cases h1 with
    | dic h na q =>
      cases rx
      obtain ⟨_, _, vs, _, o, es, ep, ho, hx, hd, _⟩ := dk_rd I.hok (.inl h)
      have eq : ∀ {us : List Value}, Vals (ms.map V.str) us → ∀ z, z ∈ us.toArray → SeqAt.EqAt X.A.in1 s z (.ref _) false := fun r z hz => by
        obtain ⟨t, tk, rfl⟩ := allS r z (by simpa using hz)
        exact DLT.eq_str_dict t tk ho hx.1 hd (by show X.A.units + 1 < cLine; omega)
      have fin : EP X pins σ Q (.bool (if neg then !false else false)) s := ⟨.bl _, H, I, rfl, kk _ _ H r Grow.refl (.bl _)⟩
      rcases ey with rfl | rfl
      · cases h2 with
        | lst hl2 _ qs =>
          cases ry
          have e := qs.inj_strs
          subst e
          obtain ⟨its, r2, p, _⟩ := I.list (.inl (.inl hl2))
          cases neg with
          | true => exact SeqAt.notIn_listAt (fun _ => false) p.isList (eq r2) (by rw [show its.toArray.any (fun _ => false) = false by simp]; exact fin)
          | false => exact SeqAt.in_listAt (fun _ => false) p.isList (eq r2) (by rw [show its.toArray.any (fun _ => false) = false by simp]; exact fin)
      · cases h2 with
        | tup hl2 _ qs =>
          cases ry
          have e := qs.inj_strs
          subst e
          obtain ⟨its, r2, p, _⟩ := I.tuple (.inl hl2)
          cases neg with
          | true => exact SeqAt.notIn_tupleAt (fun _ => false) p (eq r2) (by rw [show its.toArray.any (fun _ => false) = false by simp]; exact fin)
          | false => exact SeqAt.in_tupleAt (fun _ => false) p (eq r2) (by rw [show its.toArray.any (fun _ => false) = false by simp]; exact fin)
theorem a_inS (hS : SysB X.base) (hu : X.A.units + 65 < cLine) (ha : PE X a (liftE c Wx wa)) (hb : PE X b (liftE c Wx wb)) (hm : behindInMarks .In b = false := by rfl) : PE X (.Compare a [.In] [b] pos) (liftE c Wx (wOp (inS false) wa wb)) := a_cmp (opr_of (opi_inS (neg := false) hS hu)) opd_rD ha hb hm
theorem t_inS (hS : SysB X.base) (hu : X.A.units + 65 < cLine) (ha : PE X a (liftE c Wx wa)) (hb : PE X b (liftE c Wx wb)) (hm : behindInMarks .In b = false := by rfl) : PT X (.Compare a [.In] [b] pos) (liftT c Wx (wB (wOp (inS false) wa wb))) := t_cmp (opr_of (opi_inS (neg := false) hS hu)) opd_rD ha hb hm
theorem a_ninS (hS : SysB X.base) (hu : X.A.units + 65 < cLine) (ha : PE X a (liftE c Wx wa)) (hb : PE X b (liftE c Wx wb)) (hm : behindInMarks .NotIn b = false := by rfl) : PE X (.Compare a [.NotIn] [b] pos) (liftE c Wx (wOp (inS true) wa wb)) := a_cmp (opr_of (opi_inS (neg := true) hS hu)) opd_rD ha hb hm
theorem t_ninS (hS : SysB X.base) (hu : X.A.units + 65 < cLine) (ha : PE X a (liftE c Wx wa)) (hb : PE X b (liftE c Wx wb)) (hm : behindInMarks .NotIn b = false := by rfl) : PT X (.Compare a [.NotIn] [b] pos) (liftT c Wx (wB (wOp (inS true) wa wb))) := t_cmp (opr_of (opi_inS (neg := true) hS hu)) opd_rD ha hb hm
end
end DL
namespace DL
open PySem PySem.Spec PyProof.Rows L2
section
variable {X : Cx} {τ : TBL} {cn : Cn τ} {Wx : WX} {e a b c d : Expr} {es : List Expr} {pos p p' apos cpos : Pos} {x : Str} {w : AA}
/-! ### a, b, c = e, f, g (values) -/
def wPar3 (i j l : Nat) (w : AA) (env : Env) (A : AEnds) : Prop := w env (fun as env1 => ∃ x y z, as = [.vl x, .vl y, .vl z] ∧ A.nx (((env1.set i (.val x)).set j (.val y)).set l (.val z))) A.ex
theorem s_par3 {i j l : Nat} {x y z : Str} {px py pz pt : Pos} {kt k2 pt2} (hc : X.calm = true) (hN : X.N.Nodup) (hi : X.N[i]? = some x) (hj : X.N[j]? = some y) (hl : X.N[l]? = some z) (hij : i ≠ j) (hil : i ≠ l) (hjl : j ≠ l) (hx : X.env.scope.names.lookup x = some .local) (hy : X.env.scope.names.lookup y = some .local) (hz : X.env.scope.names.lookup z = some .local) (ha : PA X [a, b, c] (liftA cn Wx w))
    (hw : swappedStores [.Tuple [.Name x px, .Name y py, .Name z pz] kt pt] (.Tuple [a, b, c] k2 pt2) X.env = pure (some [x, y, z])) (hs : swapsWithSole [.Tuple [.Name x px, .Name y py, .Name z pz] kt pt] (.Tuple [a, b, c] k2 pt2) pos.line X.env = pure false := by rfl) :
    PS X (.Assign [.Tuple [.Name x px, .Name y py, .Name z pz] kt pt] (.Tuple [a, b, c] k2 pt2) pos) (liftS cn Wx (wPar3 i j l w)) := PS.imp (fun D σ H ⟨Av, env, A, g, q, E⟩ =>
      ⟨Av, env, _, _, g, q, fun as env1 vs Av1 H1 q1 g1 m1 d1 => by
        obtain ⟨x, y, z, rfl, q1⟩ := q1
        cases d1 with
        | cons h1 t1 =>
          cases t1 with
          | cons h2 t2 =>
            cases t2 with
            | cons h3 t3 =>
              cases t3
              exact ⟨_, _, _, rfl, E.nx _ Av1 _ H1 q1 (((g1.setVal h1 i).setVal h2 j).setVal h3 l) m1⟩, E.ex _⟩) (ps_par3 hc hN hi hj hl hij hil hjl hx hy hz ha hw hs)
/-! the same rules, the written part told by its name (inside a comprehension) -/
theorem a_valEK {K : PySem.W.Frag} {we : AE} (hK : X.K = K) (he : PE X e (liftE cn Wx we)) (hb : attributeBase e "value" X.env (eval e X.env) = eval e X.env := by rfl) : PE X (.Attribute e "value" pos) (liftE cn Wx (wValE K we)) := hK ▸ a_valE he hb
theorem calli_isiK {K : PySem.W.Frag} (hK : X.K = K) : CallI X (.builtin "isinstance") (isiD K) := hK ▸ calli_isi
theorem a_ixK {K : PySem.W.Frag} {wa wb : AE} (hK : X.K = K) (hu : X.A.units + 1 < cLine) (ha : PE X a (liftE cn Wx wa)) (hb : PE X b (liftE cn Wx wb)) (hs : PlainIx b) : PE X (.Subscript a b pos) (liftE cn Wx (wOp (atDd K) wa wb)) := hK ▸ a_ix hu ha hb hs
end
end DL
set_option Elab.async false
set_option linter.all false
set_option maxRecDepth 100000
set_option maxHeartbeats 4000000
/-! What a law draws a book from, its text, its book. -/
namespace WB
open PySem PySem.Spec PyProof.Rows L2 DL TL
structure Lore where
  cl : List Str
  rv : List PStr
  ks : List Right
def dLs (l : List Str) : D := .lst (l.map D.str)
def dKind (k : Right) : D := .tup [.str k.1, dLs k.2.1, dLs k.2.2]
def dLore (L : Lore) : D := .dic [.inr "clients", .inr "rivals", .inr "kinds"] [dLs L.cl, .lst (L.rv.map D2), .lst (L.ks.map dKind)]
def swapP (p : PStr) : PStr := (p.2, p.1)
/-- the pair in the clients' sequence -/
def seqP (cl : List Str) (p : PStr) : PStr := if p ∈ WB.pairsOf cl then p else swapP p
structure LoreOk (L : Lore) : Prop where
  good : Cl L.cl
  wd : ∀ c ∈ L.cl, Wd c
  rv : ∀ p ∈ L.rv, p ∈ WB.pairsOf L.cl ∨ swapP p ∈ WB.pairsOf L.cl
  rn : (L.rv.map (seqP L.cl)).Nodup
  k0 : L.ks ≠ []
  k4 : L.ks.length ≤ 4
  kn : ∀ k ∈ L.ks, isName k.1 = true ∧ Wd k.1 ∧ k.2.1 = inSeq L.cl k.2.1 ∧ k.2.2 = inSeq L.cl k.2.2
  kd : (L.ks.map (·.1)).Nodup
def kindLines (k : Right) : List (List Str) := [kLine k.1, lLine k.2.1, wLine k.2.2]
def loreLines (L : Lore) : List (List Str) := cLine L.cl :: (L.rv.map rivalLine ++ L.ks.flatMap kindLines)
theorem rivals_lore {cl : List Str} (hn : cl.Nodup) : ∀ {qs : List PStr} {T : List (List Str)} {i : Nat} {ps : List PStr}, (∀ q ∈ qs, q ∈ WB.pairsOf cl ∨ swapP q ∈ WB.pairsOf cl) → (ps ++ qs.map (seqP cl)).Nodup → rivalsW cl (qs.map rivalLine ++ T) i ps = rivalsW cl T (i + qs.length) (ps ++ qs.map (seqP cl))
  | [], _, _, _, _, _ => by simp
  | (a, b) :: qs, T, i, ps, h, hd => by
    have h2 : inSeq cl [a, b] = [(seqP cl (a, b)).1, (seqP cl (a, b)).2] := by
      unfold seqP
      by_cases hm : (a, b) ∈ WB.pairsOf cl
      · rw [if_pos hm, inSeq_pair hn hm]
      · rw [if_neg hm, ← inSeq_swap, inSeq_pair hn ((h (a, b) List.mem_cons_self).resolve_left hm)]
        rfl
    rw [List.map_cons, List.cons_append, show rivalLine (a, b) = [Str.ofString "rivals", a, b] from rfl]
    have hx : seqP cl (a, b) ∉ ps := fun z => (List.nodup_append.mp hd).2.2 _ z _ List.mem_cons_self rfl
    rw [rivals_one h2 hx, rivals_lore hn (fun q hq => h q (List.mem_cons_of_mem _ hq)) (by rw [List.append_assoc]; exact hd)]
    simp only [List.append_assoc, List.cons_append, List.nil_append, List.length_cons, List.map_cons]
    congr 1
    omega
theorem kinds_lore {cl : List Str} : ∀ {ks : List Right} {f i : Nat} {qs : List Right}, ks.length ≤ f → qs.length + ks.length ≤ 4 → qs ++ ks ≠ [] → ((qs ++ ks).map (·.1)).Nodup → (∀ k ∈ ks, isName k.1 = true ∧ Wd k.1 ∧ k.2.1 = inSeq cl k.2.1 ∧ k.2.2 = inSeq cl k.2.2) → kindsS cl f (ks.flatMap kindLines) i qs = .ok (qs ++ ks)
  | [], f, i, qs, _, _, h, _, _ => by
    rw [List.append_nil] at h ⊢
    exact kS_done h
  | (x, lo, wr) :: ks, 0, i, qs, hf, _, _, _, _ => absurd hf (by simp)
  | (x, lo, wr) :: ks, f + 1, i, qs, hf, h4, h0, hd, h => by
    obtain ⟨h1, h2, h3, h5⟩ := h _ List.mem_cons_self
    rw [List.flatMap_cons, show kindLines (x, lo, wr) = [kLine x, lLine lo, wLine wr] from rfl, List.cons_append, List.cons_append, List.cons_append, List.nil_append]
    rw [List.length_cons] at h4 hf
    have hx : x ∉ qs.map (·.1) := fun z => by
      rw [List.map_append, List.map_cons] at hd
      exact (List.nodup_append.mp hd).2.2 _ z _ List.mem_cons_self rfl
    rw [kS_one ⟨by omega, h1, hx⟩ h3 h5, kinds_lore (by omega) (by rw [List.length_append, List.length_singleton]; omega) (by simp) (by rw [List.append_assoc]; exact hd) fun k hk => h k (List.mem_cons_of_mem _ hk)]
    rw [List.append_assoc]
    rfl
theorem read_lore {L : Lore} (h : LoreOk L) : readW (loreLines L) = .ok ⟨txt (loreLines L), L.cl, L.rv.map (seqP L.cl), L.ks⟩ := by
  have hT : NoRiv (L.ks.flatMap kindLines) := by
    cases hk : L.ks with
    | nil => exact absurd hk h.k0
    | cons k r => show (Str.ofString "kind") ≠ _; decide +kernel
  unfold readW loreLines
  rw [clientsW_of h.good]
  simp only [List.drop_succ_cons, List.drop_zero]
  rw [rivals_lore h.good.nd h.rv (by simpa using h.rn), List.nil_append, rivals_end hT]
  have e : (cLine L.cl :: (L.rv.map rivalLine ++ L.ks.flatMap kindLines)).drop (1 + (L.rv.map (seqP L.cl)).length) = L.ks.flatMap kindLines := by
    rw [Nat.add_comm, List.drop_succ_cons]
    have : (L.rv.map (seqP L.cl)).length = (L.rv.map rivalLine).length := by rw [List.length_map, List.length_map]
    rw [this, List.drop_left]
  simp only [kinds_S, e]
  rw [kinds_lore (qs := []) _ (by simpa using h.k4) (by simpa using h.k0) (by simpa using h.kd) h.kn]
  · rfl
  · have hl : ∀ l : List Right, l.length ≤ (l.flatMap kindLines).length := by
      intro l
      induction l with
      | nil => exact Nat.le_refl _
      | cons k r ih =>
        rw [List.flatMap_cons, List.length_append, List.length_cons]
        show _ ≤ 3 + _
        omega
    have := hl L.ks
    simp only [List.length_cons, List.length_append]
    omega
/-- are they rivals, by what is told -/
def arR (rv : List PStr) (s t : Str) : Bool := decide ((s, t) ∈ rv) || decide ((t, s) ∈ rv)
theorem seqP_or (cl : List Str) (p : PStr) : seqP cl p = p ∨ seqP cl p = swapP p := by
  unfold seqP
  split
  · exact .inl rfl
  · exact .inr rfl
theorem arR_lore {L : Lore} {rv : List PStr} (hp : rv.Perm (L.rv.map (seqP L.cl))) (s t : Str) : arR rv s t = arR L.rv s t := by
  unfold arR
  rw [Bool.eq_iff_iff]
  simp only [Bool.or_eq_true, decide_eq_true_eq, hp.mem_iff, List.mem_map]
  constructor
  · rintro (⟨p, h, e⟩ | ⟨p, h, e⟩)
    · rcases seqP_or L.cl p with z | z
      · rw [z] at e; subst e; exact .inl h
      · rw [z] at e; obtain ⟨a, b⟩ := p; cases e; exact .inr h
    · rcases seqP_or L.cl p with z | z
      · rw [z] at e; subst e; exact .inr h
      · rw [z] at e; obtain ⟨a, b⟩ := p; cases e; exact .inl h
  · rintro (h | h)
    · rcases seqP_or L.cl (s, t) with z | z
      · exact .inl ⟨_, h, z⟩
      · exact .inr ⟨_, h, z⟩
    · rcases seqP_or L.cl (t, s) with z | z
      · exact .inr ⟨_, h, z⟩
      · exact .inl ⟨_, h, z⟩
theorem pairs_len : ∀ l : List Str, (WB.pairsOf l).length * 2 + l.length = l.length * l.length
  | [] => rfl
  | x :: r => by
    have h := pairs_len r
    have e : (r.length + 1) * (r.length + 1) = r.length * r.length + 2 * r.length + 1 := by
      rw [Nat.add_mul, Nat.mul_add, Nat.one_mul, Nat.mul_one]
      omega
    rw [WB.pairsOf, List.length_append, List.length_map, List.length_cons, e]
    omega
theorem nodup_len {α : Type} [DecidableEq α] : ∀ {a b : List α}, a.Nodup → (∀ x ∈ a, x ∈ b) → a.length ≤ b.length
  | [], _, _, _ => Nat.zero_le _
  | x :: a, b, hn, hs => by
    obtain ⟨h1, h2⟩ := List.nodup_cons.mp hn
    have hx := hs x List.mem_cons_self
    have h3 := nodup_len (b := b.erase x) h2 fun y hy => (List.mem_erase_of_ne (fun e : y = x => h1 (e ▸ hy))).mpr (hs y (List.mem_cons_of_mem _ hy))
    rw [List.length_erase_of_mem hx] at h3
    have : 0 < b.length := List.length_pos_of_mem hx
    rw [List.length_cons]
    omega
theorem LoreOk.rv28 {L : Lore} (h : LoreOk L) : L.rv.length ≤ 28 := by
  have h1 := nodup_len h.rn (b := WB.pairsOf L.cl) fun p hp => by
    obtain ⟨q, hq, rfl⟩ := List.mem_map.mp hp
    unfold seqP
    split
    · assumption
    · rename_i hn
      exact (h.rv q hq).resolve_left hn
  rw [List.length_map] at h1
  have h2 := pairs_len L.cl
  have h3 : L.cl.length * L.cl.length ≤ 8 * L.cl.length := Nat.mul_le_mul_right _ h.good.le
  have h4 := h.good.le
  omega
theorem inSeq_le {cl l : List Str} (h : l = inSeq cl l) : l.length ≤ cl.length ∧ ∀ x ∈ l, x ∈ cl := by
  constructor
  · rw [h]
    exact List.length_filter_le _ _
  · intro x hx
    rw [h] at hx
    exact (List.mem_filter.mp hx).1
theorem part_lore {L : Lore} (h : LoreOk L) : Part (loreLines L) ∧ (loreLines L).length ≤ 41 := by
  have hc := h.good.le
  have hlot : ∀ l : List Str, l = inSeq L.cl l → (∀ x ∈ l, Wd x) ∧ l.length ≤ 9 := fun l hl => ⟨fun x hx => h.wd x ((inSeq_le hl).2 x hx), by have := (inSeq_le hl).1; omega⟩
  refine ⟨.cons (.of (wd_of (by decide +kernel)) h.wd (by omega)) (.app ?_ ?_), ?_⟩
  · intro ws hw
    obtain ⟨q, hq, rfl⟩ := List.mem_map.mp hw
    have hm : q.1 ∈ L.cl ∧ q.2 ∈ L.cl := by
      rcases h.rv q hq with z | z
      · exact pairsOf_mem z
      · exact ⟨(pairsOf_mem z).2, (pairsOf_mem z).1⟩
    exact .of (wd_of (by decide +kernel)) (wds_cons (h.wd _ hm.1) (wds_cons (h.wd _ hm.2) wds_nil)) (by simp)
  · intro ws hw
    obtain ⟨k, hk, hw⟩ := List.mem_flatMap.mp hw
    obtain ⟨_, h2, h3, h4⟩ := h.kn k hk
    simp only [kindLines, List.mem_cons, List.not_mem_nil, or_false] at hw
    rcases hw with rfl | rfl | rfl
    · exact .of (wd_of (by decide +kernel)) (wds_cons h2 wds_nil) (by simp)
    · exact .of (wd_of (by decide +kernel)) (hlot _ h3).1 (hlot _ h3).2
    · exact .of (wd_of (by decide +kernel)) (hlot _ h4).1 (hlot _ h4).2
  · have h1 := h.rv28
    have h2 := h.k4
    have h3 : ∀ l : List Right, (l.flatMap kindLines).length = l.length * 3 := by
      intro l
      induction l with
      | nil => rfl
      | cons k r ih =>
        rw [List.flatMap_cons, List.length_append, List.length_cons, Nat.succ_mul, ih]
        show 3 + _ = _
        omega
    unfold loreLines
    rw [List.length_cons, List.length_append, List.length_map, h3]
    omega
theorem lore_text {L : Lore} (h : LoreOk L) : Tx (txt (loreLines L)) ∧ WB.read (txt (loreLines L)) = .ok ⟨txt (loreLines L), L.cl, L.rv.map (seqP L.cl), L.ks⟩ := by
  obtain ⟨h1, h2⟩ := part_lore h
  exact ⟨h1.tx (by omega), (read_W (h1.lines (by simp [loreLines]))).trans (read_lore h)⟩
end WB
set_option Elab.async false
set_option linter.all false
set_option maxRecDepth 100000
set_option maxHeartbeats 4000000
/-! What the methods of a book promise. -/
namespace WB
open PySem PySem.Spec PyProof.Rows L2 DL TL
/-- a book as a value -/
def dBook (C : Addr) (b : Bk) (rv : List PStr) : D := .ins C bkF (bkV b rv)
/-- values that may stand beside texts -/
def OddV (x : D) : Prop := (∃ q, x.py = some q ∧ SeqAt.shaped q = true) ∨ ∃ ks ds, x = .dic ks ds
structure BkOk (b : Bk) (rv : List PStr) : Prop where
  cl : ∀ c ∈ b.clients, PyData.strOk c = true
  c8 : b.clients.length ≤ 8
  rv : ∀ p ∈ rv, PyData.strOk p.1 = true ∧ PyData.strOk p.2 = true
  kn : ∀ k ∈ b.kinds, PyData.strOk k.1 = true
  kd : (b.kinds.map (·.1)).Nodup
abbrev kNames (b : Bk) : List Str := b.kinds.map (·.1)
def cNeedC (C NC : Addr) : Con := fun ds _ Qd Xd => ∃ b rv x, ds = [dBook C b rv, x] ∧ BkOk b rv ∧ OddV x ∧ if memS b.clients x = true then Qd .non [] else Xd NC x
def cNeedK (C NK : Addr) : Con := fun ds _ Qd Xd => ∃ b rv x, ds = [dBook C b rv, x] ∧ BkOk b rv ∧ OddV x ∧ if memS (kNames b) x = true then Qd .non [] else Xd NK x
/-- the first that is no client is told, else the answer -/
def OneOf (ms : List Str) (x : D) (k : Str → Prop) (no : D → Prop) : Prop := match x with
  | .str s => if ms.contains s = true then k s else no x
  | _ => no x
theorem oneOf_mem {ms : List Str} {x : D} {k : Str → Prop} {no : D → Prop} (h : OneOf ms x k no) : if memS ms x = true then ∃ s, x = .str s ∧ s ∈ ms ∧ k s else no x := by
  cases x with
  | str s =>
    have h' : if ms.contains s = true then k s else no (.str s) := h
    show if ms.contains s = true then _ else _
    by_cases hs : ms.contains s = true
    · rw [if_pos hs] at h' ⊢
      exact ⟨s, rfl, by simpa using hs, h'⟩
    · rw [if_neg hs] at h' ⊢
      exact h'
  | _ => exact (if_neg (by simp [memS])).mpr h
theorem oneOf_yes {ms : List Str} {s : Str} {k : Str → Prop} {no : D → Prop} (h : s ∈ ms) (q : k s) : OneOf ms (.str s) k no := by
  show if ms.contains s = true then k s else no (.str s)
  rw [if_pos (by simpa using h)]
  exact q
theorem oneOf_no {ms : List Str} {x : D} {k : Str → Prop} {no : D → Prop} (h : memS ms x = false) (q : no x) : OneOf ms x k no := by
  cases x with
  | str s =>
    show if ms.contains s = true then k s else no (.str s)
    rw [if_neg (by rw [show ms.contains s = false from h]; decide)]
    exact q
  | _ => exact q
def cAre (C NC : Addr) : Con := fun ds _ Qd Xd => ∃ b rv x y, ds = [dBook C b rv, x, y] ∧ BkOk b rv ∧ OddV x ∧ OddV y ∧ OneOf b.clients x (fun s => OneOf b.clients y (fun t => Qd (.bl (arR rv s t)) []) (Xd NC)) (Xd NC)
def cRivalsOf (C NC : Addr) : Con := fun ds _ Qd Xd => ∃ b rv x, ds = [dBook C b rv, x] ∧ BkOk b rv ∧ OddV x ∧ OneOf b.clients x (fun s => Qd (dLot (b.clients.filter fun t => arR rv s t)) []) (Xd NC)
def cLotOfKind (C NK : Addr) (f : Right → List Str) : Con := fun ds _ Qd Xd => ∃ b rv x, ds = [dBook C b rv, x] ∧ BkOk b rv ∧ OddV x ∧ OneOf (kNames b) x (fun s => ∀ k ∈ b.kinds, k.1 = s → Qd (dLot (f k)) []) (Xd NK)
theorem get_kind : ∀ {ks : List Right} {k : Right}, (ks.map (·.1)).Nodup → k ∈ ks → dget (ks.map fun k => (Sum.inr k.1 : Key)) (ks.map dRight) (.inr k.1) = some (dRight k)
  | k' :: ks, k, hd, hk => by
    rw [List.map_cons, List.map_cons, dget]
    rw [List.map_cons] at hd
    obtain ⟨h1, h2⟩ := List.nodup_cons.mp hd
    rcases List.mem_cons.mp hk with rfl | hk
    · simp
    · have : ¬ (k'.1 = k.1) := fun e => h1 (e ▸ List.mem_map.mpr ⟨k, hk, rfl⟩)
      rw [if_neg (by simpa using this)]
      exact get_kind h2 hk
theorem odd_str {s : Str} (h : PyData.strOk s = true) : OddV (.str s) := .inl ⟨_, rfl, shaped_str h⟩
theorem sub_inSeq : ∀ {xs ys : List Str}, ys.Sublist xs → xs.Nodup → inSeq xs ys = ys
  | _, _, .slnil, _ => rfl
  | _, _, .cons a h, hd => by
    obtain ⟨h1, h2⟩ := List.nodup_cons.mp hd
    rw [inSeq_cons_no fun z => h1 (h.subset z)]
    exact sub_inSeq h h2
  | _, _, .cons_cons a h, hd => by
    obtain ⟨h1, h2⟩ := List.nodup_cons.mp hd
    rw [inSeq_cons_yes List.mem_cons_self]
    congr 1
    rw [inSeq_congr (b := _) fun c hc => ?_]
    · exact sub_inSeq h h2
    · have : c ≠ a := fun z => h1 (z ▸ hc)
      simp [this]
def isStr : D → Bool
  | .str _ => true
  | _ => false
theorem isi_odd {K : PySem.W.Frag} {x : D} {k : D → Prop} (h : OddV x) (q : k (.bl (isStr x))) : isiD K [x, .ty "str"] k := by
  have no : ∀ {t : String}, (PySem.W.kitOne K (.type t) (.type "str") = some false) → TyD K x (.type t) → isStr x = false → isiD K [x, .ty "str"] k := fun h1 h2 h3 => ⟨_, _, false, h2, .ty _, h1, h3 ▸ q⟩
  cases x with
  | str s => exact ⟨_, _, true, .str s, .ty _, rfl, q⟩
  | non => exact no rfl .non rfl
  | bl b => exact no rfl (.bl b) rfl
  | int i => exact no rfl (.int i) rfl
  | tup ds => exact no rfl (.tup ds) rfl
  | lst ds => exact no rfl (.lst ds) rfl
  | dic ks ds => exact no rfl (.dic ks ds) rfl
  | _ =>
    exfalso
    rcases h with ⟨q, h, _⟩ | ⟨ks, ds, h⟩
    · simp [D.py] at h
    · cases h
theorem dg1 {x y z : D} : dget [Sum.inr (Str.ofString "clients"), Sum.inr (Str.ofString "rivals"), Sum.inr (Str.ofString "kinds")] [x, y, z] (Sum.inr (Str.ofString "clients")) = some x := by rfl
theorem dg2 {x y z : D} : dget [Sum.inr (Str.ofString "clients"), Sum.inr (Str.ofString "rivals"), Sum.inr (Str.ofString "kinds")] [x, y, z] (Sum.inr (Str.ofString "rivals")) = some y := by
  simp only [dget]
  rw [if_neg (by decide +kernel), if_pos (by decide +kernel)]
theorem dg3 {x y z : D} : dget [Sum.inr (Str.ofString "clients"), Sum.inr (Str.ofString "rivals"), Sum.inr (Str.ofString "kinds")] [x, y, z] (Sum.inr (Str.ofString "kinds")) = some z := by
  simp only [dget]
  rw [if_neg (by decide +kernel), if_neg (by decide +kernel), if_pos (by decide +kernel)]
theorem LoreOk.okp {L : Lore} (h : LoreOk L) : ∀ p ∈ L.rv, PyData.strOk p.1 = true ∧ PyData.strOk p.2 = true := fun p hp => by
  have hm : p.1 ∈ L.cl ∧ p.2 ∈ L.cl := by
    rcases h.rv p hp with z | z
    · exact pairsOf_mem z
    · exact ⟨(pairsOf_mem z).2, (pairsOf_mem z).1⟩
  exact ⟨(h.wd _ hm.1).ok, (h.wd _ hm.2).ok⟩
theorem LoreOk.okr {L : Lore} (h : LoreOk L) {rv : List PStr} (hp : rv.Perm (L.rv.map (seqP L.cl))) : BkOk ⟨txt (loreLines L), L.cl, L.rv.map (seqP L.cl), L.ks⟩ rv := by
  refine ⟨fun c hc => (h.wd c hc).ok, h.good.le, fun p hp2 => ?_, fun k hk => (h.kn k hk).2.1.ok, h.kd⟩
  obtain ⟨q, hq, rfl⟩ := List.mem_map.mp (hp.mem_iff.mp hp2)
  rcases seqP_or L.cl q with z | z
  · rw [z]; exact h.okp q hq
  · rw [z]; exact ⟨(h.okp q hq).2, (h.okp q hq).1⟩
theorem sumL_le {α : Type} {f : α → Nat} {M : Nat} : ∀ {l : List α}, (∀ x ∈ l, f x ≤ M) → (l.map f).sum ≤ l.length * M
  | [], _ => by simp
  | x :: l, h => by
    have h1 := h x List.mem_cons_self
    have h2 := sumL_le (l := l) (M := M) fun y hy => h y (List.mem_cons_of_mem _ hy)
    rw [List.map_cons, List.sum_cons, List.length_cons, Nat.succ_mul]
    omega
theorem part_b {L : List (List Str)} (hp : Part L) (hl : L.length ≤ 80) : (List.map (fun x : Str => x.length) (L.map ln)).sum + (L.map ln).length * (Str.ofString "\n").length ≤ 16777216 := by
  have e := sumL_le (l := L.map ln) (f := fun x : Str => x.length) (M := 120) fun y hy => by
    obtain ⟨ws, hw, rfl⟩ := List.mem_map.mp hy
    exact (hp ws hw).ln.2
  rw [show (Str.ofString "\n").length = 1 from rfl]
  rw [List.length_map] at e ⊢
  omega
theorem pairsOf_ne : ∀ {l : List Str}, l.Nodup → ∀ p ∈ WB.pairsOf l, p.1 ≠ p.2
  | x :: r, h, p, hp => by
    obtain ⟨h1, h2⟩ := List.nodup_cons.mp h
    rcases List.mem_append.mp hp with hp | hp
    · obtain ⟨y, hy, rfl⟩ := List.mem_map.mp hp
      exact fun e => h1 ((show x = y from e) ▸ hy)
    · exact pairsOf_ne h2 p hp
theorem pairsOf_swap : ∀ {l : List Str}, l.Nodup → ∀ {a b : Str}, (a, b) ∈ WB.pairsOf l → (b, a) ∉ WB.pairsOf l
  | x :: r, h, a, b, hp, hq => by
    obtain ⟨h1, h2⟩ := List.nodup_cons.mp h
    rcases List.mem_append.mp hp with hp | hp
    · obtain ⟨y, hy, e⟩ := List.mem_map.mp hp
      cases e
      rcases List.mem_append.mp hq with hq | hq
      · obtain ⟨z, hz, e⟩ := List.mem_map.mp hq
        cases e
        exact h1 hz
      · exact h1 (pairsOf_mem hq).2
    · rcases List.mem_append.mp hq with hq | hq
      · obtain ⟨z, hz, e⟩ := List.mem_map.mp hq
        cases e
        exact h1 (pairsOf_mem hp).2
      · exact pairsOf_swap h2 hp hq
theorem seqP_yes {cl : List Str} {p : PStr} (h : p ∈ WB.pairsOf cl) : seqP cl p = p := if_pos h
theorem seqP_no {cl : List Str} (hd : cl.Nodup) {a b : Str} (h : (a, b) ∈ WB.pairsOf cl) : seqP cl (b, a) = (a, b) := if_neg (pairsOf_swap hd h)
end WB
namespace WB
open PySem PySem.Spec PyProof.Rows L2 DL TL
theorem nice_parts {k L : Nat} : ∀ {ds : List D}, (∀ d ∈ ds, Nice k L d) → ∃ ps, pys ds = some ps ∧ PyData.showableAll ps = true ∧ PyData.depthAll ps ≤ k ∧ (∀ s ∈ PyData.shownAll ps, s.length ≤ L ∧ PyData.strOk s = true) ∧ (PyData.shownAll ps).length = ds.length
  | [], _ => ⟨[], rfl, by simp [PyData.showableAll], by simp [PyData.depthAll], by simp [PyData.shownAll], by simp [PyData.shownAll]⟩
  | d :: ds, h => by
    obtain ⟨p, a, b, c, e, f⟩ := h d List.mem_cons_self
    obtain ⟨ps, h1, h2, h3, h4, h5⟩ := nice_parts (ds := ds) fun x hx => h x (List.mem_cons_of_mem _ hx)
    refine ⟨p :: ps, by rw [pys, a, h1], by simp [PyData.showableAll, b, h2], by simp [PyData.depthAll]; omega, fun s hs => ?_, by simp [PyData.shownAll, h5]⟩
    simp only [PyData.shownAll, List.mem_cons] at hs
    rcases hs with rfl | hs
    · exact ⟨e, f⟩
    · exact h4 s hs
theorem join_b {S : Str} {l : List Str} {M : Nat} (hS : PyData.strOk S = true) (h : ∀ s ∈ l, s.length ≤ M ∧ PyData.strOk s = true) : (Str.join S l).length ≤ l.length * (M + S.length) ∧ PyData.strOk (Str.join S l) = true := by
  constructor
  · rw [← tl_len, tl_join]
    have e := joinL_le (parts := l.map tl) (S := tl S) (M := M) fun p hp => by
      obtain ⟨s, hs, rfl⟩ := List.mem_map.mp hp
      rw [tl_len]
      exact (h s hs).1
    rw [List.length_map, tl_len] at e
    exact e
  · refine ok_iff.mpr ?_
    rw [tl_join]
    refine joinL_ok (fun p hp => ?_) (ok_iff.mp hS)
    obtain ⟨s, hs, rfl⟩ := List.mem_map.mp hp
    exact ok_iff.mp (h s hs).2
theorem nice_tup {k L n : Nat} {ds : List D} (h : ∀ d ∈ ds, Nice k L d) (hl : ds.length ≤ n) : Nice (k + 1) (n * (L + 2) + 4) (.tup ds) := by
  obtain ⟨ps, h1, h2, h3, h4, h5⟩ := nice_parts h
  have hj := join_b (S := Str.ofString ", ") (by decide +kernel) h4
  have hm : (PyData.shownAll ps).length * (L + 2) ≤ n * (L + 2) := Nat.mul_le_mul_right _ (by omega)
  have hj1 : (Str.join (Str.ofString ", ") (PyData.shownAll ps)).length ≤ n * (L + 2) := Nat.le_trans hj.1 hm
  refine ⟨.tuple ps, by rw [D.py, h1]; rfl, by simp [PyData.showable, h2], by simp [PyData.depth]; omega, ?_, ?_⟩
  · rw [PyData.shown]
    unfold tupleText
    have q1 : (Str.ofString "(").length = 1 := by decide
    have q2 : (Str.ofString ",)").length = 2 := by decide
    have q3 : (Str.ofString ")").length = 1 := by decide
    split
    · rw [Str.length_append, Str.length_append, q1, q2]
      omega
    · rw [Str.length_append, Str.length_append, q1, q3]
      omega
  · rw [PyData.shown]
    unfold tupleText
    refine strOk_append (strOk_append (by decide +kernel) hj.2) ?_
    split <;> decide +kernel
end WB
set_option Elab.async false
set_option linter.all false
set_option maxRecDepth 100000
set_option maxHeartbeats 4000000
/-! Operators that go by own methods: ==, !=, in, not in, len, |, &. -/
namespace DL
open PySem PySem.Spec PyProof.Rows L2
/-- the class of a value -/
inductive TyL : D → Value → Prop
  | non : TyL .non (.type "NoneType")
  | bl (b : Bool) : TyL (.bl b) (.type "bool")
  | int (i : Int) : TyL (.int i) (.type "int")
  | str (s : Str) : TyL (.str s) (.type "str")
  | lst (ds : List D) : TyL (.lst ds) (.type "list")
  | tup (ds : List D) : TyL (.tup ds) (.type "tuple")
  | dic (ks : List Key) (ds : List D) : TyL (.dic ks ds) (.type "dict")
  | err {C : Addr} (d : D) : TyL (.err C d) (.ref C)
  | ins {C : Addr} (ks : List Str) (ds : List D) : TyL (.ins C ks ds) (.ref C)
section
variable {cal : Bool} {X : Cx} {τ : TBL} {c : Cn τ} {Wx : WX} {W : WX} {a b : Expr} {pos : Pos} {k n j : Nat} {f C : Addr} {fd : FuncData} {ps : List Str} {sp : Sp} {wa wb we : AE}
theorem looks_ty {M : Model} {pins : List (Addr × Obj)} {σ : L2.St} {H : Hp} {s : Shared} {Av : AvS} {v : V} {d : D} {u t : Value} (I : Inv X pins σ H s) (h : Den Av H v d) (r : RelV v u) (T : TyL d t) : PySem.W.Looks M s.heap (typeOf u) t := by
  have viaX : TyX X.K H v t → PySem.W.Looks M s.heap (typeOf u) t := fun tx => by
    obtain ⟨P, Z, p, _⟩ := kit_of I r tx
    exact Z.ty _ _ I.kIn p
  cases T with
  | non => cases h; exact viaX (.base .non)
  | bl b => cases h; exact viaX (.base (.bl b))
  | int i => cases h; exact viaX (.base (.int i))
  | str s => cases h; exact viaX (.base (.str s))
  | lst ds => cases h with
    | lst h na q => exact viaX (.base (.lst h))
  | tup ds => cases h with
    | tup h na q =>
      rcases h with h | ⟨o, h⟩
      · exact viaX (.base (.tup h))
      · exact viaX (.fTuple h)
  | dic ks ds => cases h with
    | dic h na q =>
      exact viaX (.base (.dK h))
  | err d => cases h with
    | err h h' na ne q =>
      obtain ⟨ox, od, mA, J, _⟩ := inst_of I h h'
      cases r
      exact J.type
    | errK h h' na ne q =>
      obtain ⟨ox, od, mA, J, _⟩ := inst_ofK I h h'
      cases r
      exact J.type
  | ins ks ds => cases h with
    | ins h na q =>
      obtain ⟨mB, J', _⟩ := ins_get I.hok h
      obtain ⟨od', J', _⟩ := J'.look
      cases r
      exact J'.type
theorem runGA {A : Around} {pins : List (Addr × Obj)} {σ : L2.St} {H : Hp} {s : Shared} {Q : VK} {us : List Value} {vs : List V} (hfr : A.frames = X.A.frames) (F : FnG X.prog X.w X.K X.mg X.base cal k f fd ps sp) (hr : Room k A) (hG : CalmB cal A) (hb : Binds X.K fd ps []) (tk : Takes X W) (I : Inv X pins σ H s) (r : Vals vs us)
    (h : sp vs H Q fun cls d H' => W cls d σ H') : wpAny (model X.prog X.w) A (call (.ref f) us) (EP X pins σ Q) X.xe s := by
  have hl : (us ++ []).length = ps.length := by rw [List.append_nil, ← r.length]; exact F.len _ _ _ _ h
  have bd := hb s us I.kIn hl
  rw [List.append_nil] at bd
  have e0 : Env0 X.prog X.w X.K X.mg X.base A X.stack s H := by
    have e := I.env0
    exact ⟨by rw [hfr]; exact e.frames, e.mod, e.bs, e.bsz, e.funs, e.frf, e.hok, e.bare⟩
  refine wpAny_call (codeAny_mono (F.run A hr hG X.stack s H e0 ⟨us, []⟩ us vs bd r Q _ h) fun res s' z => ?_)
  rcases back_to tk I z with ⟨u, rfl, z1⟩ | ⟨er, rfl, z1⟩
  · exact z1
  · exact z1
/-- x op y goes by a method of x: what comes back, made over -/
def rDun (C : Addr) (K : PySem.W.Frag) (W : WX) (sp : Sp) (σ0 : L2.St) : V → V → Hp → VK → Prop := fun x y H Q => ∃ a dx fs, x = .ref a ∧ H a = some (.ins C dx fs) ∧ sp [x, y] H Q fun cls d H' => W cls d σ0 H'
theorem inst_look {pins : List (Addr × Obj)} {σ : L2.St} {H : Hp} {s : Shared} {a C dx : Addr} {fs : List (Str × V)} (I : Inv X pins σ H s) (h : H a = some (.ins C dx fs)) : ∃ ox od, PySem.W.InstAt s.heap a ox C od := by
  obtain ⟨mA, J, _⟩ := ins_get I.hok h
  obtain ⟨od, J, _⟩ := J.look
  exact ⟨_, _, J⟩
theorem bool_back {pins : List (Addr × Obj)} {σ : L2.St} {Q : VK} {v : Value} {s' : Shared} (h : EP X pins σ (fun v H' => ∃ b, v = .bl b ∧ Q (.bl b) H') v s') : ∃ b, v = .bool b ∧ EP X pins σ Q (.bool b) s' := by
  obtain ⟨z, H', I', rz, b, rfl, q⟩ := h
  cases rz
  exact ⟨b, rfl, .bl b, H', I', rfl, q⟩
/-- == by an own __eq__ that gives a bool -/
theorem op_eqI {y : V} {pins : List (Addr × Obj)} {s : Shared} {σ : L2.St} {H : Hp} {u tb : Value} {Q : VK} {a dx : Addr} {fs : List (Str × V)} (F : FnG X.prog X.w X.K X.mg X.base false k f fd ps sp) (hm : Meth X.K C "__eq__" f) (hr : Room k X.A) (hb : Binds X.K fd ps [])
    (I : Inv X pins σ H s) (ha : H a = some (.ins C dx fs)) (ry : RelV y u) (hu : ∀ M, PySem.W.Looks M s.heap (typeOf u) tb) (hn : PySem.W.notFirst X.K C tb = true)
    (h : sp [.ref a, y] H (fun v H' => ∃ b, v = .bl b ∧ Q (.bl b) H') fun _ _ _ => False) : wpAny (model X.prog X.w) X.A (compareOp .Eq (.ref a) u) (EP X pins σ Q) X.xe s := by
  obtain ⟨ox, od, J⟩ := inst_look I ha
  obtain ⟨m, hF⟩ := I.fr
  show wpAny (model X.prog X.w) X.A (richCompare .Eq (.ref a) u) (EP X pins σ Q) X.xe s
  refine PySem.W.cmp_K (op := .Eq) hr.units0 hF I.ok.mod.kin J (hu _) hn hm.at_ hm.fn ?_
  refine wpAny_mono (runGA (W := fun _ _ _ _ => False) rfl F hr (fun z => nomatch z) hb L2.takes0 I (vs := [.ref a, y]) (.cons rfl (.cons ry .nil)) h) (fun v s' q => ?_) fun _ _ x => x
  obtain ⟨z, H', I', rz, b, rfl, q⟩ := q
  cases rz
  exact ⟨.bl b, H', I', rfl, q⟩
theorem ne_bind (self : Value) : bindSpecial (.builtin "object.__ne__") self = pure (.builtin "object.__ne__", [self]) := (PySem.F.cmp_object.ne).bind self
theorem ifBound_ne {M : Model} {A : Around} {s : Shared} {E : Value → Shared → Prop} {x : Addr} {ox : Obj} {od : Option Obj} {args : List Value} {Q : Option Value → Shared → Prop} (Y : X.K.In s.heap) (I : PySem.W.InstAt s.heap x ox C od) (hs : PySem.W.findIn X.K (.ref C) "__ne__" = some (some (.builtin "object.__ne__")))
    (h : wpAny M A (call (.builtin "object.__ne__") (.ref x :: args)) (fun v => Q (some v)) E s) : wpAny M A (callSpecialIfBound? (.ref x) "__ne__" args) Q E s := by
  simp only [callSpecialIfBound?, bindSpecialIfBound?]
  refine wpAny_holding (wpAny_bind (wpAny_bind (wpAny_bind (I.type.here ((PySem.W.looks_findIn Y hs).here ?_)))))
  refine wpAny_bind (wpAny_askSetting (wpAny_ite ?_))
  have fin : wpAny M A (call (.builtin "object.__ne__") ([.ref x] ++ args) >>= fun v => pure (some v)) Q E s := wpAny_bind (wpAny_mono h (fun v s' h' => wpAny_pure h') fun _ _ h' => h')
  split
  · exact wpAny_bind ((PySem.W.Looks.of_pure (ne_bind _)).here (wpAny_pure (by exact fin)))
  · exact wpAny_tryCatch (wpAny_bind ((PySem.W.Looks.of_pure (ne_bind _)).here (wpAny_pure (by exact fin))))
/-- the class inherits object's != -/
structure NeK (K : PySem.W.Frag) (C : Addr) : Prop where
  ne : PySem.W.findIn K (.ref C) "__ne__" = some (some (.builtin "object.__ne__"))
  ob : PySem.W.mroIn K C (.type "object") = some true
/-- != by an own __eq__ -/
theorem op_neI {y : V} {pins : List (Addr × Obj)} {s : Shared} {σ : L2.St} {H : Hp} {u tb : Value} {Q : VK} {a dx : Addr} {fs : List (Str × V)} (F : FnG X.prog X.w X.K X.mg X.base false k f fd ps sp) (hm : Meth X.K C "__eq__" f) (hne : NeK X.K C) (hr : Room (k + 1) X.A) (hb : Binds X.K fd ps [])
    (I : Inv X pins σ H s) (ha : H a = some (.ins C dx fs)) (ry : RelV y u) (hu : ∀ M, PySem.W.Looks M s.heap (typeOf u) tb) (hn : PySem.W.notFirst X.K C tb = true)
    (h : sp [.ref a, y] H (fun v H' => ∃ b, v = .bl b ∧ Q (.bl (!b)) H') fun _ _ _ => False) : wpAny (model X.prog X.w) X.A (compareOp .NotEq (.ref a) u) (EP X pins σ Q) X.xe s := by
  obtain ⟨ox, od, J⟩ := inst_look I ha
  have Y := I.kIn
  show wpAny (model X.prog X.w) X.A (richCompare .NotEq (.ref a) u) (EP X pins σ Q) X.xe s
  have inner : wpAny (model X.prog X.w) X.A.in1 (call (.ref f) [.ref a, u]) (fun v s' => ∃ b, v = .bool b ∧ EP X pins σ Q (.bool (!b)) s') X.xe s := by
    refine wpAny_mono (runGA (A := X.A.in1) (W := fun _ _ _ _ => False) rfl F hr.in1 (fun z => nomatch z) hb L2.takes0 I (vs := [.ref a, y]) (.cons rfl (.cons ry .nil)) h) (fun v s' q => ?_) fun _ _ x => x
    obtain ⟨z, H', I', rz, b, rfl, q⟩ := q
    cases rz
    exact ⟨b, rfl, .bl (!b), H', I', rfl, q⟩
  have body : wpAny (model X.prog X.w) X.A (call (.builtin "object.__ne__") [.ref a, u]) (PySem.W.CmpBack (EP X pins σ Q)) X.xe s := by
    have sub : PySem.W.Looks (model X.prog X.w) s.heap (isInstance (.ref a) (.type "object")) true := J.type.andThen (PySem.W.looks_mroIn Y hne.ob)
    refine wpAny_call (codeAny_call_builtin PySem.F.cmp_object.ne.plain PySem.F.cmpEntry_ne (PySem.W.check_slot PySem.F.cmpKind_ne PySem.F.cmpSplit_ne sub (PySem.F.cmpArgs_ne _ _) ?_))
    unfold Builtin.«object.__ne__»
    refine wpAny_bind (m := slotArgs "__ne__" 1 _) (wpAny_pure ?_)
    refine wpAny_bind (wpAny_cRoomFor hr.in1.units0 ?_)
    refine wpAny_bind (m := callSpecialIfBound? (.ref a) (Str.ofString "__eq__") _) (PySem.W.ifBound_K Y J hm.at_ hm.fn (wpAny_mono inner (fun v s' q => ?_) fun _ _ y => y))
    obtain ⟨b, rfl, q⟩ := q
    refine wpAny_bind (wpAny_truthy_bool ?_)
    exact wpAny_pure q
  have one : wpAny (model X.prog X.w) X.A (tryCompare (.ref a) "__ne__" u) (fun r s' => ∃ v, r = some v ∧ EP X pins σ Q v s') X.xe s := by
    unfold tryCompare
    refine wpAny_bind (ifBound_ne Y J hne.ne (wpAny_mono body (fun v s' hv => ?_) fun _ _ e => e))
    cases v <;> first | exact hv.elim | exact wpAny_pure ⟨_, rfl, hv⟩
  unfold richCompare
  simp only [oneThing_ref]
  refine wpAny_holding (wpAny_bind (wpAny_cRoomFor hr.units0 ?_))
  refine wpAny_bind (J.type.here (wpAny_bind ((hu _).here ?_)))
  split
  · rename_i q
    have e : PySem.W.subIn X.K tb (.ref C) = some false := by
      rcases Bool.or_eq_true_iff.mp hn with e | e
      · rw [beq_iff_eq.mp e] at q; simp at q
      · exact beq_iff_eq.mp e
    refine wpAny_bind ((PySem.W.looks_subIn Y e).here ?_)
    simp only [Bool.false_eq_true, if_false]
    refine wpAny_bind (wpAny_mono one (fun r s' z => ?_) fun _ _ e => e)
    obtain ⟨v, rfl, hq⟩ := z
    exact wpAny_pure hq
  · refine wpAny_bind (wpAny_pure ?_)
    simp only [Bool.false_eq_true, if_false]
    refine wpAny_bind (wpAny_mono one (fun r s' z => ?_) fun _ _ e => e)
    obtain ⟨v, rfl, hq⟩ := z
    exact wpAny_pure hq
/-- v in x by an own __contains__ that gives a bool -/
theorem op_inI {neg : Bool} {y : V} {pins : List (Addr × Obj)} {s : Shared} {σ : L2.St} {H : Hp} {u : Value} {Q : VK} {a dx : Addr} {fs : List (Str × V)} (F : FnG X.prog X.w X.K X.mg X.base false k f fd ps sp) (hm : Meth X.K C "__contains__" f) (hr : Room k X.A) (hb : Binds X.K fd ps [])
    (I : Inv X pins σ H s) (ha : H a = some (.ins C dx fs)) (ry : RelV y u)
    (h : sp [.ref a, y] H (fun v H' => ∃ b, v = .bl b ∧ Q (.bl (if neg then !b else b)) H') fun _ _ _ => False) : wpAny (model X.prog X.w) X.A (compareOp (if neg then .NotIn else .In) u (.ref a)) (EP X pins σ Q) X.xe s := by
  obtain ⟨ox, od, J⟩ := inst_look I ha
  obtain ⟨m, hF⟩ := I.fr
  have inner : wpAny (model X.prog X.w) X.A (call (.ref f) [.ref a, u]) (fun v s' => ∃ b, v = .bool b ∧ EP X pins σ Q (.bool (if neg then !b else b)) s') X.xe s := by
    refine wpAny_mono (runGA (W := fun _ _ _ _ => False) rfl F hr (fun z => nomatch z) hb L2.takes0 I (vs := [.ref a, y]) (.cons rfl (.cons ry .nil)) h) (fun v s' q => ?_) fun _ _ x => x
    obtain ⟨z, H', I', rz, b, rfl, q⟩ := q
    cases rz
    exact ⟨b, rfl, .bl (if neg then !b else b), H', I', rfl, q⟩
  cases neg with
  | false =>
    refine PySem.W.in_K hF I.ok.mod.kin J hm.at_ hm.fn (wpAny_mono inner (fun v s' q => ?_) fun _ _ y => y)
    obtain ⟨b, rfl, q⟩ := q
    exact wpAny_truthy_bool q
  | true =>
    refine PySem.W.notIn_K hF I.ok.mod.kin J hm.at_ hm.fn (wpAny_mono inner (fun v s' q => ?_) fun _ _ y => y)
    obtain ⟨b, rfl, q⟩ := q
    exact wpAny_truthy_bool q
/-- len(x) by an own __len__ -/
theorem call_lenI {pins : List (Addr × Obj)} {s : Shared} {σ : L2.St} {H : Hp} {Q : VK} {a dx : Addr} {fs : List (Str × V)} (F : FnG X.prog X.w X.K X.mg X.base false k f fd ps sp) (hm : Meth X.K C "__len__" f) (hr : Room (k + 1) X.A) (hb : Binds X.K fd ps [])
    (I : Inv X pins σ H s) (ha : H a = some (.ins C dx fs))
    (h : sp [.ref a] H (fun v H' => ∃ n : Int, v = .int n ∧ (0 ≤ n ∧ n < 2 ^ 63) ∧ Q (.int n) H') fun _ _ _ => False) : wpAny (model X.prog X.w) X.A (call (.builtin "len") [.ref a]) (EP X pins σ Q) X.xe s := by
  obtain ⟨ox, od, J⟩ := inst_look I ha
  obtain ⟨m, hF⟩ := I.fr
  refine PySem.W.len_K hF I.ok.mod.kin J hm.at_ hm.fn (wpAny_mono (runGA (A := X.A.in1) (W := fun _ _ _ _ => False) rfl F hr.in1 (fun z => nomatch z) hb L2.takes0 I (vs := [.ref a]) (.cons rfl .nil) h) (fun v s' q => ?_) fun _ _ x => x)
  obtain ⟨z, H', I', rz, n, rfl, hn, q⟩ := q
  obtain ⟨t, rfl⟩ := (show ∃ t, v = Value.int n t from rz)
  exact ⟨hn, .int n, H', I'.tok _, ⟨_, rfl⟩, q⟩
/-- x | y, x & y by own methods -/
theorem op_binI {op : Operator} {nm : Str} {y : V} {pins : List (Addr × Obj)} {s : Shared} {σ : L2.St} {H : Hp} {u : Value} {Q : VK} {a dx : Addr} {fs : List (Str × V)} (F : FnG X.prog X.w X.K X.mg X.base false k f fd ps sp) (e : PySem.dunder op.info.2 = nm) (hm : Meth X.K C nm f) (hc : PySem.W.selfFirst X.K C = true) (hr : Room k X.A) (hb : Binds X.K fd ps []) (tk : Takes X Wx)
    (I : Inv X pins σ H s) (ha : H a = some (.ins C dx fs)) (ry : RelV y u) (hu : ∀ M, PySem.W.Looks M s.heap (typeOf u) (.ref C))
    (h : sp [.ref a, y] H Q fun cls d H' => Wx cls d σ H') : wpAny (model X.prog X.w) X.A (binaryOp op (.ref a) u) (EP X pins σ Q) X.xe s := by
  obtain ⟨ox, od, J⟩ := inst_look I ha
  obtain ⟨m, hF⟩ := I.fr
  refine PySem.W.binop_K hF I.ok.mod.kin J (hu _) hc (by rw [e]; exact hm.at_) hm.fn (wpAny_mono (runGA rfl F hr (fun z => nomatch z) hb tk I (vs := [.ref a, y]) (.cons rfl (.cons ry .nil)) h) (fun v s' q => ?_) fun _ _ x => x)
  have q0 := q
  obtain ⟨z, H', I', rz, q⟩ := q
  cases v with
  | notImplemented => cases z <;> first | (obtain ⟨t, h⟩ := rz; cases h; done) | (cases rz; done)
  | _ => exact q0
/-! ### the words -/
def wDun (K : PySem.W.Frag) (C : Addr) (con : Con) (g : Bool → Bool) (wa wb : AE) (env : Env) (Q : D → Env → Prop) (X : AX) : Prop := wa env (fun x env1 => wb env1 (fun y env2 => ∃ ks ds t, x = .ins C ks ds ∧ TyL y t ∧ PySem.W.notFirst K C t = true ∧ con [x, y] [] (fun d _ => ∃ b, d = .bl b ∧ Q (.bl (g b)) env2) fun _ _ => False) X) X
def wInI (C : Addr) (con : Con) (g : Bool → Bool) (wa wb : AE) (env : Env) (Q : D → Env → Prop) (X : AX) : Prop := wa env (fun x env1 => wb env1 (fun y env2 => ∃ ks ds, y = .ins C ks ds ∧ con [y, x] [] (fun d _ => ∃ b, d = .bl b ∧ Q (.bl (g b)) env2) fun _ _ => False) X) X
def wLenI (C : Addr) (con : Con) (wa : AE) (env : Env) (Q : D → Env → Prop) (X : AX) : Prop := wa env (fun x env1 => ∃ ks ds, x = .ins C ks ds ∧ con [x] [] (fun d _ => ∃ n : Int, d = .int n ∧ (0 ≤ n ∧ n < 2 ^ 63) ∧ Q (.int n) env1) fun _ _ => False) X
def wBinI (C : Addr) (con : Con) (wa wb : AE) (env : Env) (Q : D → Env → Prop) (X : AX) : Prop := wa env (fun x env1 => wb env1 (fun y env2 => ∃ ks ds, x = .ins C ks ds ∧ TyL y (.ref C) ∧ con [x, y] [] (fun d _ => Q d env2) fun C' d => X C' d env2) X) X
/-- what is called, as a rule of two values -/
def rCon (τ : TBL) (n : Nat) (con : Con) (C : Addr) (Y : D → Prop) (P : VK → VK) (W : L2.St → XK) : L2.St → V → V → Hp → VK → Prop := fun σ x y H Q => ∃ a dx fs Av d, x = .ref a ∧ H a = some (.ins C dx fs) ∧ Den Av H y d ∧ Y d ∧ spOf τ n none con [x, y] H (P Q) (W σ)
theorem dun_core {con : Con} {σ : L2.St} {H : Hp} {env : Env} {Av Av0 : AvS} {H0 : Hp} {Q : VK} {x y : V} {dx dy : D} {B : D → Prop} (g : Good c Av σ H env) (m0 : Mono Av0 H0 Av H) (hx : Den Av H x dx) (hy : Den Av H y dy) (q : con [dx, dy] [] (fun d _ => B d) fun _ _ => False) (E : XK)
    (k : ∀ d v Av' H', B d → Good c Av' σ H' env → Mono Av0 H0 Av' H' → Den Av' H' v d → Q v H') : spOf τ 2 none con [x, y] H Q E := by
  have h := call_core (con := con) (mi := none) (as := [.vl dx, .vl dy]) (vs := [x, y]) (Qa := fun d e => B d ∧ e = env) (Xa := fun _ _ _ => False) (Q := Q) (Wx := fun c d _ H => E c d H) (n := 2) rfl g m0 (.cons hx (.cons hy .nil)) (by
    show con [dx, dy] [] _ _
    exact cast (by simp) q) (fun d e v Av' H' ⟨b, e1⟩ g' m' d' => by subst e1; exact k d v Av' H' b g' m' d') (fun _ _ _ _ _ _ _ z => z.elim)
  exact h
abbrev rEqI (X : Cx) (τ : TBL) (C : Addr) (con : Con) (g : Bool → Bool) : R2 := fun x y H Q => ∃ a dx fs Av d tb, x = .ref a ∧ H a = some (.ins C dx fs) ∧ Den Av H y d ∧ TyL d tb ∧ PySem.W.notFirst X.K C tb = true ∧ spOf τ 2 none con [x, y] H (fun v H' => ∃ b, v = .bl b ∧ Q (.bl (g b)) H') fun _ _ _ => False
theorem eqI_lift {con : Con} {gg : Bool → Bool} : ∀ σ H Q, liftE c Wx (wDun X.K C con gg wa wb) σ H Q → tOp (rEqI X τ C con gg) (liftE c Wx wa) (liftE c Wx wb) σ H Q := fun σ H Q ⟨Av, env, Qa, Xa, g, q, kk, xx⟩ => by
  refine ⟨Av, env, _, Xa, g, q, fun d env1 v Av1 H1 q1 g1 m1 d1 => ?_, xx⟩
  refine ⟨Av1, env1, _, Xa, g1, q1, fun d2 env2 v2 Av2 H2 q2 g2 m2 d2' => ?_, xx.mono m1⟩
  obtain ⟨ks, ds, t, rfl, ty, nf, q2⟩ := q2
  have d0 := Den.mono m2 d1
  cases d1 with
  | ins h1 na qs =>
    have h2 := m2.kp _ _ na h1 nt_ins
    refine ⟨_, _, _, Av2, d2, t, rfl, h2, d2', ty, nf, ?_⟩
    refine dun_core g2 (m1.trans m2) d0 d2' q2 _ fun d v Av' H' ⟨b, e, qb⟩ g' m' dv => ?_
    subst e
    cases dv
    exact ⟨b, rfl, kk _ _ _ Av' H' qb g' m' (.bl _)⟩
theorem opr_eqI {con : Con} (h : DefM X.prog X.w X.K X.mg X.base τ false k C "__eq__" 2 none con) (hr : Room j X.A) (hkj : k ≤ j) : OpR X (compareOp .Eq) (rEqI X τ C con id) := by
  obtain ⟨f, fd, ps, hC, hM, F, hB⟩ := h.ex
  intro pins s σ H x y v u Q I rx ry ⟨a, dx, fs, Av, d, tb, ex, e, dy, ty, nf, z⟩
  subst ex; cases rx
  exact op_eqI F hM (hr.mono hkj) hB I e ry (fun M => looks_ty I dy ry ty) nf z
theorem opr_neI {con : Con} (h : DefM X.prog X.w X.K X.mg X.base τ false k C "__eq__" 2 none con) (hne : NeK X.K C) (hr : Room j X.A) (hkj : k + 1 ≤ j) : OpR X (compareOp .NotEq) (rEqI X τ C con not) := by
  obtain ⟨f, fd, ps, hC, hM, F, hB⟩ := h.ex
  intro pins s σ H x y v u Q I rx ry ⟨a, dx, fs, Av, d, tb, ex, e, dy, ty, nf, z⟩
  subst ex; cases rx
  exact op_neI F hM hne (hr.mono hkj) hB I e ry (fun M => looks_ty I dy ry ty) nf z
theorem a_eqI {con : Con} (h : DefM X.prog X.w X.K X.mg X.base τ false k C "__eq__" 2 none con) (hr : Room j X.A) (hkj : k ≤ j) (ha : PE X a (liftE c Wx wa)) (hb : PE X b (liftE c Wx wb)) (hm : behindInMarks .Eq b = false := by rfl) : PE X (.Compare a [.Eq] [b] pos) (liftE c Wx (wDun X.K C con id wa wb)) := PE.imp eqI_lift (pe_cmpR (opr_eqI h hr hkj) ha hb hm)
theorem t_eqI {con : Con} (h : DefM X.prog X.w X.K X.mg X.base τ false k C "__eq__" 2 none con) (hr : Room j X.A) (hkj : k ≤ j) (ha : PE X a (liftE c Wx wa)) (hb : PE X b (liftE c Wx wb)) (hm : behindInMarks .Eq b = false := by rfl) : PT X (.Compare a [.Eq] [b] pos) (liftT c Wx (wB (wDun X.K C con id wa wb))) := PT.imp (lift_wB eqI_lift) (pt_cmpR (opr_eqI h hr hkj) ha hb hm)
theorem a_neI {con : Con} (h : DefM X.prog X.w X.K X.mg X.base τ false k C "__eq__" 2 none con) (hne : NeK X.K C) (hr : Room j X.A) (hkj : k + 1 ≤ j) (ha : PE X a (liftE c Wx wa)) (hb : PE X b (liftE c Wx wb)) (hm : behindInMarks .NotEq b = false := by rfl) : PE X (.Compare a [.NotEq] [b] pos) (liftE c Wx (wDun X.K C con not wa wb)) := PE.imp eqI_lift (pe_cmpR (opr_neI h hne hr hkj) ha hb hm)
theorem t_neI {con : Con} (h : DefM X.prog X.w X.K X.mg X.base τ false k C "__eq__" 2 none con) (hne : NeK X.K C) (hr : Room j X.A) (hkj : k + 1 ≤ j) (ha : PE X a (liftE c Wx wa)) (hb : PE X b (liftE c Wx wb)) (hm : behindInMarks .NotEq b = false := by rfl) : PT X (.Compare a [.NotEq] [b] pos) (liftT c Wx (wB (wDun X.K C con not wa wb))) := PT.imp (lift_wB eqI_lift) (pt_cmpR (opr_neI h hne hr hkj) ha hb hm)
abbrev rInI (τ : TBL) (C : Addr) (con : Con) (g : Bool → Bool) : R2 := fun x y H Q => ∃ a dx fs, y = .ref a ∧ H a = some (.ins C dx fs) ∧ spOf τ 2 none con [y, x] H (fun v H' => ∃ b, v = .bl b ∧ Q (.bl (g b)) H') fun _ _ _ => False
theorem inI_lift {con : Con} {gg : Bool → Bool} : ∀ σ H Q, liftE c Wx (wInI C con gg wa wb) σ H Q → tOp (rInI τ C con gg) (liftE c Wx wa) (liftE c Wx wb) σ H Q := fun σ H Q ⟨Av, env, Qa, Xa, g, q, kk, xx⟩ => by
  refine ⟨Av, env, _, Xa, g, q, fun d env1 v Av1 H1 q1 g1 m1 d1 => ?_, xx⟩
  refine ⟨Av1, env1, _, Xa, g1, q1, fun d2 env2 v2 Av2 H2 q2 g2 m2 d2' => ?_, xx.mono m1⟩
  obtain ⟨ks, ds, rfl, q2⟩ := q2
  have d0 := d2'
  cases d2' with
  | ins h2 na qs =>
    refine ⟨_, _, _, rfl, h2, ?_⟩
    refine dun_core g2 (m1.trans m2) d0 (Den.mono m2 d1) q2 _ fun d v Av' H' ⟨b, e, qb⟩ g' m' dv => ?_
    subst e
    cases dv
    exact ⟨b, rfl, kk _ _ _ Av' H' qb g' m' (.bl _)⟩
theorem opr_inI (neg : Bool) {con : Con} (h : DefM X.prog X.w X.K X.mg X.base τ false k C "__contains__" 2 none con) (hr : Room j X.A) (hkj : k ≤ j) : OpR X (compareOp (if neg then .NotIn else .In)) (rInI τ C con (fun b => if neg then !b else b)) := by
  obtain ⟨f, fd, ps, hC, hM, F, hB⟩ := h.ex
  intro pins s σ H x y v u Q I rx ry ⟨a, dx, fs, ey, e, z⟩
  subst ey; cases ry
  exact op_inI F hM (hr.mono hkj) hB I e rx z
theorem a_isIn {con : Con} (h : DefM X.prog X.w X.K X.mg X.base τ false k C "__contains__" 2 none con) (hr : Room j X.A) (hkj : k ≤ j) (ha : PE X a (liftE c Wx wa)) (hb : PE X b (liftE c Wx wb)) (hm : behindInMarks .In b = false := by rfl) : PE X (.Compare a [.In] [b] pos) (liftE c Wx (wInI C con (fun b => b) wa wb)) := PE.imp inI_lift (pe_cmpR (opr_inI false h hr hkj) ha hb hm)
theorem t_isIn {con : Con} (h : DefM X.prog X.w X.K X.mg X.base τ false k C "__contains__" 2 none con) (hr : Room j X.A) (hkj : k ≤ j) (ha : PE X a (liftE c Wx wa)) (hb : PE X b (liftE c Wx wb)) (hm : behindInMarks .In b = false := by rfl) : PT X (.Compare a [.In] [b] pos) (liftT c Wx (wB (wInI C con (fun b => b) wa wb))) := PT.imp (lift_wB inI_lift) (pt_cmpR (opr_inI false h hr hkj) ha hb hm)
theorem a_notIn {con : Con} (h : DefM X.prog X.w X.K X.mg X.base τ false k C "__contains__" 2 none con) (hr : Room j X.A) (hkj : k ≤ j) (ha : PE X a (liftE c Wx wa)) (hb : PE X b (liftE c Wx wb)) (hm : behindInMarks .NotIn b = false := by rfl) : PE X (.Compare a [.NotIn] [b] pos) (liftE c Wx (wInI C con not wa wb)) := PE.imp inI_lift (pe_cmpR (opr_inI true h hr hkj) ha hb hm)
theorem t_notIn {con : Con} (h : DefM X.prog X.w X.K X.mg X.base τ false k C "__contains__" 2 none con) (hr : Room j X.A) (hkj : k ≤ j) (ha : PE X a (liftE c Wx wa)) (hb : PE X b (liftE c Wx wb)) (hm : behindInMarks .NotIn b = false := by rfl) : PT X (.Compare a [.NotIn] [b] pos) (liftT c Wx (wB (wInI C con not wa wb))) := PT.imp (lift_wB inI_lift) (pt_cmpR (opr_inI true h hr hkj) ha hb hm)
theorem dun_core1 {con : Con} {σ : L2.St} {H : Hp} {env : Env} {Av Av0 : AvS} {H0 : Hp} {Q : VK} {x : V} {dx : D} {B : D → Prop} (g : Good c Av σ H env) (m0 : Mono Av0 H0 Av H) (hx : Den Av H x dx) (q : con [dx] [] (fun d _ => B d) fun _ _ => False) (E : XK)
    (k : ∀ d v Av' H', B d → Good c Av' σ H' env → Mono Av0 H0 Av' H' → Den Av' H' v d → Q v H') : spOf τ 1 none con [x] H Q E := by
  have h := call_core (con := con) (mi := none) (as := [.vl dx]) (vs := [x]) (Qa := fun d e => B d ∧ e = env) (Xa := fun _ _ _ => False) (Q := Q) (Wx := fun c d _ H => E c d H) (n := 1) rfl g m0 (.cons hx .nil) (by
    show con [dx] [] _ _
    exact cast (by simp) q) (fun d e v Av' H' ⟨b, e1⟩ g' m' d' => by subst e1; exact k d v Av' H' b g' m' d') (fun _ _ _ _ _ _ _ z => z.elim)
  exact h
theorem a_lenI {con : Con} {p : Pos} (h : DefM X.prog X.w X.K X.mg X.base τ false k C "__len__" 1 none con) (hr : Room j X.A) (hkj : k + 1 ≤ j) (hg : Gl X "len") (hm : X.mg "len" = none) (ha : PE X a (liftE c Wx wa)) (na : starEach [a] X.env = (false, eval a X.env) :: starEach [] X.env := by rfl) (hpl : (backTo pos (starEach [] X.env)).any (·.1) = false := by rfl) : PE X (.Call (.Name "len" p) [a] [] pos) (liftE c Wx (wLenI C con wa)) := by
  obtain ⟨f, fd, ps, hC, hM, F, hB⟩ := h.ex
  refine PE.imp (fun σ H Q ⟨Av, env, Qa, Xa, g, q, kk, xx⟩ => ?_) (pe_callB (r := fun xs H Q => ∃ a dx fs, xs = [.ref a] ∧ H a = some (.ins C dx fs) ∧ spOf τ 1 none con xs H (fun v H' => ∃ n : Int, v = .int n ∧ (0 ≤ n ∧ n < 2 ^ 63) ∧ Q (.int n) H') fun _ _ _ => False) (fun pins s σ H xs us Q I rv ⟨a, dx, fs, ex, e, z⟩ => by
    subst ex
    cases rv with
    | cons r t => cases t; cases r; exact call_lenI F hM (hr.mono hkj) hB I e z) hg hm PySem.boot_len (pa_cons ha pa_nil na) (by decide) (by decide) na hpl)
  refine ⟨Av, env, _, Xa, g, q, fun d env1 v Av1 H1 q1 g1 m1 d1 => ?_, xx⟩
  obtain ⟨ks, ds, rfl, q1⟩ := q1
  have d0 := d1
  cases d1 with
  | ins h1 na qs =>
    refine ⟨_, _, _, rfl, h1, ?_⟩
    refine dun_core1 g1 m1 d0 q1 _ fun d v Av' H' ⟨n, e, hn, qb⟩ g' m' dv => ?_
    subst e
    cases dv
    exact ⟨n, rfl, hn, kk _ _ _ Av' H' qb g' m' (.int _)⟩
theorem a_binI {op : Operator} {nm : Str} {con : Con} (h : DefM X.prog X.w X.K X.mg X.base τ false k C nm 2 none con) (e : PySem.dunder op.info.2 = nm) (hc : PySem.W.selfFirst X.K C = true) (tk : Takes X Wx) (hr : Room j X.A) (hkj : k ≤ j) (ha : PE X a (liftE c Wx wa)) (hb : PE X b (liftE c Wx wb)) : PE X (.BinOp a op b pos) (liftE c Wx (wBinI C con wa wb)) := by
  obtain ⟨f, fd, ps, hC, hM, F, hB⟩ := h.ex
  refine PE.imp (fun σ H Q ⟨Av, env, Qa, Xa, g, q, kk, xx⟩ => ?_) (show PE X (.BinOp a op b pos) (fun σ H Q => liftE c Wx wa σ H fun x H1 => liftE c Wx wb σ H1 fun y H2 => ∃ a dx fs Av d, x = .ref a ∧ H2 a = some (.ins C dx fs) ∧ Den Av H2 y d ∧ TyL d (.ref C) ∧ spOf τ 2 none con [x, y] H2 Q fun cls d H' => Wx cls d σ H') from ⟨fun pins s σ H Q I h => wpAny_BinOp (binT ha hb I h fun v u s2 x y H2 I2 rx ry ⟨a, dx, fs, Av, d, ex, e1, dy, ty, z⟩ => by
    subst ex; cases rx
    exact op_binI F e hM hc (hr.mono hkj) hB tk I2 e1 ry (fun M => looks_ty I2 dy ry ty) z)⟩)
  refine ⟨Av, env, _, Xa, g, q, fun d env1 v Av1 H1 q1 g1 m1 d1 => ?_, xx⟩
  refine ⟨Av1, env1, _, Xa, g1, q1, fun d2 env2 v2 Av2 H2 q2 g2 m2 d2' => ?_, xx.mono m1⟩
  obtain ⟨ks, ds, rfl, ty, q2⟩ := q2
  have d0 := Den.mono m2 d1
  cases d1 with
  | ins h1 na qs =>
    have h2 := m2.kp _ _ na h1 nt_ins
    refine ⟨_, _, _, Av2, d2, rfl, h2, d2', ty, ?_⟩
    exact call_core (con := con) (mi := none) (as := [.vl _, .vl d2]) (vs := [_, v2]) (n := 2) rfl g2 (m1.trans m2) (.cons d0 (.cons d2' .nil)) q2 kk xx
end
end DL
set_option Elab.async false
set_option linter.all false
set_option maxRecDepth 100000
set_option maxHeartbeats 4000000
/-! What the written part says of defs, classes: from it what the layer asks. -/
namespace WE
open PySem PySem.Spec PyProof.Rows L2 DL LamX
section
variable {K : PySem.W.Frag} {mg : Str → Option Value}
structure DefI (K : PySem.W.Frag) (x qual : Str) (st : Stmt) (f : Addr) : Prop where
  l : ∃ (oc : Value) (od : Option Addr) (kV dc pm : Value) (an : Option Addr) (cd ct : Value) (sl : Array (Option Value)), K.lookup f = some ⟨oc, od, .func (PySem.W.fnOf x qual (defArgs st) (defBody st) (defScope st) .none kV dc pm an cd ct), sl⟩ ∧ PySem.W.codeIn K cd qual = true
  k : PySem.W.keepIn K (.ref f) = true
/-- the same, with the code object told -/
structure DefIC (K : PySem.W.Frag) (x qual : Str) (st : Stmt) (f cd : Addr) : Prop where
  l : ∃ (oc : Value) (od : Option Addr) (kV dc pm : Value) (an : Option Addr) (ct : Value) (sl : Array (Option Value)), K.lookup f = some ⟨oc, od, .func (PySem.W.fnOf x qual (defArgs st) (defBody st) (defScope st) .none kV dc pm an (.ref cd) ct), sl⟩
  c : PySem.W.codeIn K (.ref cd) qual = true
  k : PySem.W.keepIn K (.ref f) = true
theorem DefI.fun {x qual : Str} {st : Stmt} {f : Addr} (D : DefI K x qual st f) : ∃ fd, Fun K x qual st f fd := by
  obtain ⟨oc, od, kV, dc, pm, an, cd, ct, sl, l, c⟩ := D.l
  exact ⟨_, fun_mk l c D.k⟩
theorem DefI.t {h : Heap} {x : Str} {st : Stmt} {f : Addr} {ps : List Str} (D : DefI K x x st f) (X : K.In h) (G : h.Ns mainGlobals mg) (a : PySem.W.nsIn K mainGlobals x = some (some (.ref f)))
    (hb : ∀ (kV doc pm : Value) (an : Option Addr) (cdv ct : Value) (us : List Value), us.length = ps.length → bindArgs (PySem.W.fnOf x x (defArgs st) (defBody st) (defScope st) .none kV doc pm an cdv ct) ⟨us, []⟩ = pure (ps.zip us)) : DefT K mg x st ps := by
  obtain ⟨fd, F⟩ := D.fun
  exact ⟨f, fd, F, PySem.W.mg_of X G a, D.k, F.binds hb⟩
/-- of a method -/
theorem DefI.tm {m qual : Str} {C : Addr} {st : Stmt} {f : Addr} {ps : List Str} (D : DefI K m qual st f) (hC : Cls K C) (hm : Meth K C m f)
    (hb : ∀ (kV doc pm : Value) (an : Option Addr) (cdv ct : Value) (us : List Value), us.length = ps.length → bindArgs (PySem.W.fnOf m qual (defArgs st) (defBody st) (defScope st) .none kV doc pm an cdv ct) ⟨us, []⟩ = pure (ps.zip us)) : DefTM K C m qual st ps := by
  obtain ⟨fd, F⟩ := D.fun
  exact ⟨f, fd, F, hC, hm, F.binds hb⟩
/-- of a class's __init__ -/
theorem DefI.ti {h : Heap} {x qual : Str} {C : Addr} {st : Stmt} {f : Addr} {ps : List Str} (D : DefI K "__init__" qual st f) (X : K.In h) (G : h.Ns mainGlobals mg) (a : PySem.W.nsIn K mainGlobals x = some (some (.ref C))) (hm : Mk K C f)
    (hb : ∀ (kV doc pm : Value) (an : Option Addr) (cdv ct : Value) (us : List Value), us.length = ps.length → bindArgs (PySem.W.fnOf "__init__" qual (defArgs st) (defBody st) (defScope st) .none kV doc pm an cdv ct) ⟨us, []⟩ = pure (ps.zip us)) : DefTI K mg x C qual st ps := by
  obtain ⟨fd, F⟩ := D.fun
  exact ⟨f, fd, F, hm, PySem.W.mg_of X G a, F.binds hb⟩
theorem DefIC.tl {h base : Heap} {τ : TBL} {x : Str} {st : Stmt} {f cd tb : Addr} {ps : List Str} (D : DefIC K x x st f cd) (X : K.In h) (G : h.Ns mainGlobals mg) (a : PySem.W.nsIn K mainGlobals x = some (some (.ref f))) (TB : TabB base mg cd tb)
    (ht : (tb, x ++ ".<locals>." ++ "<lambda>") ∈ τ) (hu : ∀ p ∈ τ, p.1 = tb → p.2 = x ++ ".<locals>." ++ "<lambda>")
    (hb : ∀ (kV doc pm : Value) (an : Option Addr) (cdv ct : Value) (us : List Value), us.length = ps.length → bindArgs (PySem.W.fnOf x x (defArgs st) (defBody st) (defScope st) .none kV doc pm an cdv ct) ⟨us, []⟩ = pure (ps.zip us)) : DefTL K mg base τ x st ps := by
  obtain ⟨oc, od, kV, dc, pm, an, ct, sl, l⟩ := D.l
  have F := fun_mk l D.c D.k
  exact ⟨f, _, F, PySem.W.mg_of X G a, D.k, F.binds hb, ⟨cd, tb, TB, rfl, ht, hu⟩⟩
theorem fnok_of {P : Program} {w : World} {base : Heap} {k : Nat} {f : Addr} {fd : FuncData} {ps : List Str} {sp : Sp} (F : FnG P w K mg base false k f fd ps sp) : FnOk P w K mg base (L2.CX P w) k f fd ps sp := ⟨F.len, fun A outer s H args us vs Q E hr e0 hb hv h => F.run A hr calm0' outer s H e0 args us vs hb hv Q E h⟩
where calm0' {A : Around} : CalmB false A := fun z => nomatch z
end
theorem kit_self {K : PySem.W.Frag} {v : Value} : PySem.W.kitOne K v v = some true := by
  unfold PySem.W.kitOne
  rw [if_pos (by simp)]
theorem exm_of {K : PySem.W.Frag} {x x' : Str} {C C' fI : Addr} {bm bm' : List Value} (F : ErrF K x C fI bm) (F' : ErrF K x' C' fI bm') (h : (Value.ref C :: bm).contains (.ref C') = true) : PySem.W.exmOne K (.ref C) (.ref C') = some true := by
  unfold PySem.W.exmOne
  rw [F'.ex, if_pos (by rfl)]
  obtain ⟨cd, e1, _⟩ := F'.cls
  unfold PySem.W.kitCls
  have h1 : ((PySem.W.clsIn K C').isSome && PySem.W.typeIn K (.ref C') == some (.type "type")) = true := by rw [e1, F'.ty]; simp
  dsimp only
  rw [if_pos h1, F.sub, h]
theorem tab_mk {K : PySem.W.Frag} {x : Str} {f cd tb : Addr} (a : PySem.W.nsIn K mainGlobals x = some (some (.ref f))) (l : ∃ oc od fd sl, K.lookup f = some ⟨oc, od, .func fd, sl⟩ ∧ fd.code = .ref cd)
    (c : ∃ oc od vs sl, K.lookup cd = some ⟨oc, od, .fields vs, sl⟩ ∧ vs[11]? = some (.ref tb)) : PySem.W.tabIn K x = some (cd, tb) := by
  obtain ⟨oc, od, fd, sl, l1, l2⟩ := l
  obtain ⟨oc', od', vs, sl', c1, c2⟩ := c
  unfold PySem.W.tabIn
  simp only [a, l1, l2, c1, c2]
end WE
set_option Elab.async false
set_option linter.all false
set_option maxRecDepth 100000
set_option maxHeartbeats 4000000
/-! Own classes as classes; what a book's dunders promise. -/
namespace WB
open PySem PySem.Spec PyProof.Rows L2 DL TL
/-! ### repr of a long text -/
theorem reprChar_ok {q c : Nat} (hq : q < 0x110000) (hc : c < 0x110000) : ∀ x ∈ Builtin.Str.reprChar q c, x < 0x110000 := by
  intro x hx
  unfold Builtin.Str.reprChar at hx
  have hd : ∀ w, ∀ x ∈ List.replicate (w - ((Nat.toDigits 16 c).map Char.toNat).length) 48 ++ (Nat.toDigits 16 c).map Char.toNat, x < 0x110000 := fun w x hx => by
    rcases List.mem_append.mp hx with h | h
    · have := List.eq_of_mem_replicate h
      omega
    · obtain ⟨ch, _, rfl⟩ := List.mem_map.mp h
      have := ch.valid
      unfold Char.toNat
      rcases this with h | ⟨_, h⟩
      · have : ch.val.toNat < 0xd800 := h
        omega
      · have : ch.val.toNat < 0x110000 := h
        omega
  dsimp only at hx
  split at hx
  · simp only [List.mem_cons, List.not_mem_nil, or_false] at hx; omega
  split at hx
  · simp only [List.mem_cons, List.not_mem_nil, or_false] at hx; omega
  split at hx
  · simp only [List.mem_cons, List.not_mem_nil, or_false] at hx; omega
  split at hx
  · simp only [List.mem_cons, List.not_mem_nil, or_false] at hx; omega
  split at hx
  · simp only [List.mem_cons, List.not_mem_nil, or_false] at hx; omega
  split at hx
  · rcases List.mem_append.mp hx with h | h
    · simp only [List.mem_cons, List.not_mem_nil, or_false] at h; omega
    · exact hd 2 x h
  split at hx
  · rcases List.mem_append.mp hx with h | h
    · simp only [List.mem_cons, List.not_mem_nil, or_false] at h; omega
    · exact hd 4 x h
  · rcases List.mem_append.mp hx with h | h
    · simp only [List.mem_cons, List.not_mem_nil, or_false] at h; omega
    · exact hd 8 x h
theorem foldl_repr_ok {q : Nat} (hq : q < 0x110000) : ∀ (l : List Nat) (acc : Array Nat), (∀ c ∈ l, c < 0x110000) → (∀ c ∈ acc.toList, c < 0x110000) → ∀ c ∈ (l.foldl (fun out c => out ++ (Builtin.Str.reprChar q c).toArray) acc).toList, c < 0x110000
  | [], acc, _, h => h
  | c :: r, acc, hl, h => by
    rw [List.foldl_cons]
    refine foldl_repr_ok hq r _ (fun d hd => hl d (List.mem_cons_of_mem _ hd)) fun x hx => ?_
    rw [Array.toList_append, List.mem_append] at hx
    rcases hx with hx | hx
    · exact h x hx
    · exact reprChar_ok hq (hl c List.mem_cons_self) x hx
theorem reprQuote_le (x : Str) : reprQuote x < 0x110000 := by
  unfold reprQuote
  split <;> omega
theorem strOk_repr {x : Str} (h : PyData.strOk x = true) : PyData.strOk (reprText x) = true := by
  refine ok_iff.mpr fun c hc => ?_
  unfold tl reprText at hc
  dsimp only at hc
  rw [Array.toList_push, List.mem_append, ← Array.foldl_toList] at hc
  rcases hc with hc | hc
  · exact foldl_repr_ok (reprQuote_le x) x.cps.toList _ (ok_iff.mp h) (fun d hd => by
      have : d = reprQuote x := by simpa using hd
      rw [this]
      exact reprQuote_le x) c hc
  · have : c = reprQuote x := by simpa using hc
    rw [this]
    exact reprQuote_le x
theorem nice_str {s : Str} {n : Nat} (h : PyData.strOk s = true) (hn : s.length ≤ n) : Nice 0 (10 * n + 2) (.str s) := by
  refine ⟨.str s, rfl, by simp [PyData.showable], by simp [PyData.depth], ?_, ?_⟩
  · rw [PyData.shown]
    have := StrLaws.reprText_len s fun c hc => Nat.lt_trans (ok_iff.mp h c hc) (by decide)
    omega
  · rw [PyData.shown]
    exact strOk_repr h
/-! ### own classes -/
/-- what the written part says of an own class -/
structure InsK (K : PySem.W.Frag) (C : Addr) : Prop where
  cl : Cls K C
  ha : PySem.W.findIn K (.ref C) "__class__" = some (some (.builtin "object.__class__"))
  hn : PySem.W.specialIn K (.builtin "object.__class__") "__get__" = some (some (.builtin "getset_descriptor.__get__"))
  htk : PySem.W.takesIn K (.builtin "object.__class__") = some true
  ob : PySem.W.mroIn K C (.type "object") = some true
  ne : PySem.W.findIn K (.ref C) "__ne__" = some (some (.builtin "object.__ne__"))
  ct : PySem.W.typeIn K (.ref C) = some (.type "type")
  sf : PySem.W.selfFirst K C = true
section
variable {K : PySem.W.Frag} {C C' : Addr}
theorem InsK.neK (I : InsK K C) : NeK K C := ⟨I.ne, I.ob⟩
theorem InsK.ty (I : InsK K C) (ks : List Str) (ds : List D) : TyD K (.ins C ks ds) (.ref C) := .ins ks ds I.cl I.ha I.hn I.htk I.ob
theorem InsK.isSo (I : InsK K C) : (PySem.W.clsIn K C).isSome = true := by
  have h := I.ob
  unfold PySem.W.mroIn at h
  cases e : PySem.W.clsIn K C with
  | none => rw [e] at h; cases h
  | some _ => rfl
theorem InsK.kit (I : InsK K C) {t : Value} {b : Bool} (hne : t ≠ .ref C) (e : PySem.W.subIn K t (.ref C) = some b) : PySem.W.kitOne K t (.ref C) = some b := by
  unfold PySem.W.kitOne
  rw [if_neg (by simpa using hne)]
  unfold PySem.W.kitCls
  have h1 : ((PySem.W.clsIn K C).isSome && PySem.W.typeIn K (.ref C) == some (.type "type")) = true := by rw [I.isSo, I.ct]; simp
  dsimp only
  rw [if_pos h1, e]
/-- no instance, nothing that is raised, no class -/
def Bi : D → Prop
  | .non | .bl _ | .int _ | .str _ | .lst _ | .tup _ | .dic _ _ => True
  | _ => False
theorem Bi.ty (I : InsK K C) {x : D} (h : Bi x) : ∃ t, TyD K x t ∧ TyL x t ∧ PySem.W.kitOne K t (.ref C) = some false ∧ PySem.W.notFirst K C t = true := by
  have key : ∀ n : String, PySem.W.subIn K (.type n) (.ref C) = some false → PySem.W.kitOne K (.type n) (.ref C) = some false ∧ PySem.W.notFirst K C (.type n) = true := fun n e => ⟨I.kit (fun z => nomatch z) e, by unfold PySem.W.notFirst; rw [e]; simp⟩
  cases x with
  | non => exact ⟨_, .non, .non, key _ rfl⟩
  | bl b => exact ⟨_, .bl b, .bl b, key _ rfl⟩
  | int i => exact ⟨_, .int i, .int i, key _ rfl⟩
  | str s => exact ⟨_, .str s, .str s, key _ rfl⟩
  | lst ds => exact ⟨_, .lst ds, .lst ds, key _ rfl⟩
  | tup ds => exact ⟨_, .tup ds, .tup ds, key _ rfl⟩
  | dic ks ds => exact ⟨_, .dic ks ds, .dic ks ds, key _ rfl⟩
  | _ => exact h.elim
theorem isi_own_no (I : InsK K C) {x : D} {k : D → Prop} (h : Bi x) (q : k (.bl false)) : isiD K [x, .atm C] k := by
  obtain ⟨t, h1, _, h2, _⟩ := h.ty I
  exact ⟨t, _, false, h1, .own C, h2, q⟩
theorem isi_own_yes (I : InsK K C) {ks : List Str} {ds : List D} {k : D → Prop} (q : k (.bl true)) : isiD K [.ins C ks ds, .atm C] k := ⟨_, _, true, I.ty ks ds, .own C, WE.kit_self, q⟩
theorem isi_own_far (I : InsK K C) (I' : InsK K C') (e : PySem.W.mroIn K C' (.ref C) = some false) {ks : List Str} {ds : List D} {k : D → Prop} (q : k (.bl false)) : isiD K [.ins C' ks ds, .atm C] k := ⟨_, _, false, I'.ty ks ds, .own C, I.kit (fun z => by
  cases z
  have h := I.ob
  have h2 := I.sf
  unfold PySem.W.mroIn at e
  unfold PySem.W.selfFirst at h2
  cases q : PySem.W.clsIn K C with
  | none => rw [q] at e; cases e
  | some cd =>
    rw [q] at e h2
    simp at h2
    cases hm : cd.mro with
    | nil => rw [hm] at h2; cases h2
    | cons a r =>
      rw [hm] at h2
      rw [Option.bind_some, hm] at e
      simp at e h2
      exact absurd (e.1 h2.symm) (by simp)) e, q⟩
theorem odd_bi {x : D} (h : OddV x) : Bi x := by
  cases x with
  | non | bl _ | int _ | str _ | lst _ | tup _ | dic _ _ => trivial
  | _ =>
    exfalso
    rcases h with ⟨q, h, _⟩ | ⟨ks, ds, h⟩
    · simp [D.py] at h
    · cases h
end
/-! ### a book's dunders -/
def cLenBk (C : Addr) : Con := fun ds _ Qd _ => ∃ b rv, ds = [dBook C b rv] ∧ Qd (.int b.clients.length) []
def cInBk (C : Addr) : Con := fun ds _ Qd _ => ∃ b rv x, ds = [dBook C b rv, x] ∧ BkOk b rv ∧ OddV x ∧ Qd (.bl (memS b.clients x)) []
def cEqBk (C : Addr) : Con := fun ds _ Qd _ => ∃ b rv y, ds = [dBook C b rv, y] ∧ ((Bi y ∧ Qd (.bl false) []) ∨ ∃ b' rv', y = dBook C b' rv' ∧ PyData.strOk b.text = true ∧ PyData.strOk b'.text = true ∧ Qd (.bl (decide (b.text = b'.text))) [])
/-! ### odds and ends of laws -/
def plS : Sl → Bool
  | .un => true
  | .val _ => true
  | _ => false
theorem plainAt_of {env : DL.Env} {v : Nat} {s : Sl} (e : env[v]? = some s) (h : plS s = true) : [v].all (plainAt env) = true := by
  simp only [List.all_cons, List.all_nil, Bool.and_true]
  unfold plainAt
  rw [List.getD_eq_getElem?_getD, e]
  cases s <;> first | rfl | cases h
theorem odd_isStr {d : D} (h : OddV d) (hs : isStr d = true) : ∃ s, d = .str s ∧ PyData.strOk s = true := by
  cases d with
  | str s =>
    refine ⟨s, rfl, ?_⟩
    rcases h with ⟨q, h1, h2⟩ | ⟨_, _, h1⟩
    · rw [D.py] at h1; cases h1; (simp [SeqAt.shaped, PyData.canLay0] at h2; exact h2.1)
    · cases h1
  | _ => cases hs
theorem memS_no {ms : List Str} {d : D} (h : ¬ isStr d = true) : memS ms d = false := by
  cases d with
  | str s => exact absurd rfl h
  | _ => rfl
theorem inP_str' {neg : Bool} {d : D} {c : Str} {ms : List Str} {y : D} {k : D → Prop} (e : d = .str c) (hy : y = .lst (ms.map D.str) ∨ y = .tup (ms.map D.str)) (hc : PyData.strOk c = true) (hm : ∀ m ∈ ms, PyData.strOk m = true) (q : k (.bl (if neg then !ms.contains c else ms.contains c))) : inP neg d y k := by
  subst e
  exact inP_strs hy hc hm q
theorem nice_bl (b : Bool) : Nice 0 10 (.bl b) := nice_of (by cases b <;> decide +kernel)
theorem nice_two {k L : Nat} {d e : D} (h : Nice k L d) (h2 : Nice k L e) : Nice (k + 1) (2 * (L + 2) + 4) (.tup [d, e]) := nice_tup (fun x hx => by
  simp only [List.mem_cons, List.not_mem_nil, or_false] at hx
  rcases hx with rfl | rfl
  · exact h
  · exact h2) (by simp)
theorem nodup_map_inj {α β : Type} {f : α → β} : ∀ {l : List α}, (l.map f).Nodup → ∀ {x y : α}, x ∈ l → y ∈ l → f x = f y → x = y
  | z :: l, h, x, y, hx, hy, e => by
    rw [List.map_cons] at h
    obtain ⟨h1, h2⟩ := List.nodup_cons.mp h
    rcases List.mem_cons.mp hx with hx | hx
    · rcases List.mem_cons.mp hy with hy | hy
      · rw [hx, hy]
      · exact absurd (List.mem_map.mpr ⟨y, hy, by rw [← e, hx]⟩) h1
    · rcases List.mem_cons.mp hy with hy | hy
      · exact absurd (List.mem_map.mpr ⟨x, hx, by rw [e, hy]⟩) h1
      · exact nodup_map_inj h2 hx hy e
theorem two {p q : Prop} (f : q → p) (h : q) : p := f h
def oddB (d : D) : Bool := (match d.py with
  | some q => SeqAt.shaped q
  | none => false) || (match d with
  | .dic _ _ => true
  | _ => false)
theorem odd_of {d : D} (h : oddB d = true) : OddV d := by
  unfold oddB at h
  rcases Bool.or_eq_true_iff.mp h with h | h
  · cases e : d.py with
    | none => rw [e] at h; cases h
    | some q => rw [e] at h; exact .inl ⟨q, e, h⟩
  · cases d with
    | dic ks ds => exact .inr ⟨ks, ds, rfl⟩
    | _ => cases h
theorem eqD_bl {neg : Bool} {a b : Bool} {k : D → Prop} (q : k (.bl (if neg then !(a == b) else (a == b)))) : eqD neg (.bl a) (.bl b) k := ⟨.bool a, .bool b, rfl, rfl, rfl, by simpa [PyData.eqv] using q⟩
theorem cxK {CX : CXT} {P : Program} {w : World} {K : PySem.W.Frag} {mg : Str → Option Value} {base : Heap} {N : List Str} {q : Str} {sc : Scope} {f : Addr} {cdv : Value} {A : Around} {o : List PySem.Env} {s : Shared} {H : Hp} {E : XK} : (cxOf CX P w K mg base N q sc f cdv A o s H E).K = K := rfl
/-- repr(d) != repr(d'), of one value told twice -/
theorem repr_ne_same {n L : Nat} {d d' : D} {k : D → Prop} (h : Nice n L d) (e : d' = d) (hn : n ≤ 60) (hL : L ≤ 16777216) (q : k (.bl false)) : reprD [d] fun a => reprD [d'] fun b => eqD true a b k := by
  obtain ⟨t, ht, hrep⟩ := h.repr hn hL
  subst e
  exact hrep _ (hrep _ (eqD_str ht q))
theorem repr_eq_same {n L : Nat} {d d' : D} {k : D → Prop} (h : Nice n L d) (e : d' = d) (hn : n ≤ 60) (hL : L ≤ 16777216) (q : k (.bl true)) : reprD [d] fun a => reprD [d'] fun b => eqD false a b k := by
  obtain ⟨t, ht, hrep⟩ := h.repr hn hL
  subst e
  exact hrep _ (hrep _ (eqD_str ht q))
/-- repr of the first, something else, repr of the same -/
theorem repr_then {n L : Nat} {d : D} {k : D → Prop} (h : Nice n L d) (hn : n ≤ 60) (hL : L ≤ 16777216) (q : ∀ t : D, (∀ {k' : D → Prop}, k' t → reprD [d] k') → (∀ {k' : D → Prop}, k' (.bl false) → eqD true t t k') → (∀ {k' : D → Prop}, k' (.bl true) → eqD false t t k') → k t) : reprD [d] k := by
  obtain ⟨t, ht, hrep⟩ := h.repr hn hL
  exact hrep _ (q (.str t) (fun h => hrep _ h) (fun h => eqD_str ht h) (fun h => eqD_str ht h))
theorem nice_d2 {L : Nat} {p : PStr} (h1 : Nice 0 L (.str p.1)) (h2 : Nice 0 L (.str p.2)) : Nice 1 (2 * (L + 2) + 4) (D2 p) := nice_two h1 h2
/-- what stands behind a call that is told, said once -/
theorem cut2 {p : Prop} {w : AS} {A : AEnds} (env : D → D → DL.Env) (O : D → D → Prop) (h : ∀ c t, O c t → Rest w A (env c t)) (f : (∀ c t, O c t → Rest w A (env c t)) → p) : p := f h
/-- what stands behind a branch, said once -/
theorem cut1 {p : Prop} {α : Type} {w : AS} {A : AEnds} (env : α → DL.Env) (O : α → Prop) (h : ∀ c, O c → Rest w A (env c)) (f : (∀ c, O c → Rest w A (env c)) → p) : p := f h
end WB
set_option Elab.async false
set_option linter.all false
set_option maxRecDepth 100000
set_option maxHeartbeats 4000000
/-! f-strings, xs.insert, list * n, dict(list(d.items())). -/
namespace DL
open PySem PySem.Spec PyProof.Rows L2 LiI
section
variable {X : Cx} {τ : TBL} {c : Cn τ} {Wx : WX} {e a b : Expr} {es : List Expr} {pos p p' apos cpos : Pos} {x : Str} {wa wb we : AE} {ws : List AE} {i : Nat}
/-! ### f-strings -/
def wFmt (we : AE) (env : Env) (Q : D → Env → Prop) (X : AX) : Prop := we env (fun d env1 => (∃ y : Str, d = .str y ∧ y.length ≤ sizeLine ∧ Q (.str y) env1) ∨ ∃ i : Int, d = .int i ∧ i.natAbs.log2 < 1920 ∧ Q (.str (toString i)) env1) X
theorem a_fmt (he : PE X e (liftE c Wx we)) : PE X (.FormattedValue e (-1) none pos) (liftE c Wx (wFmt we)) := PE.imp (fun σ H Q ⟨Av, env, Qa, Xa, g, q, k, xx⟩ =>
  ⟨Av, env, _, Xa, g, q, fun d env1 v Av1 H1 q1 g1 m1 d1 => by
    rcases q1 with ⟨y, rfl, hy, q1⟩ | ⟨i, rfl, hi, q1⟩
    · cases d1; exact .inl ⟨y, rfl, hy, k _ _ _ Av1 H1 q1 g1 m1 (.str y)⟩
    · cases d1; exact .inr ⟨i, rfl, hi, k _ _ _ Av1 H1 q1 g1 m1 (.str _)⟩, xx⟩) (pe_fmt he)
def wJs : List AE → Str → Env → (Str → Env → Prop) → AX → Prop
  | [], acc, env, Q, _ => Q acc env
  | w :: ws, acc, env, Q, X => w env (fun d env1 => ∃ y : Str, d = .str y ∧ (acc ++ y).length ≤ sizeLine ∧ wJs ws (acc ++ y) env1 Q X) X
def wFstr (ws : List AE) (env : Env) (Q : D → Env → Prop) (X : AX) : Prop := wJs ws Str.empty env (fun s env' => Q (.str s) env') X
inductive AJ (X : Cx) {τ : TBL} (c : Cn τ) (Wx : WX) : List Expr → List AE → Prop where
  | nil : AJ X c Wx [] []
  | cons {e : Expr} {w : AE} {es : List Expr} {ws : List AE} (h : PE X e (liftE c Wx w)) (r : AJ X c Wx es ws) : AJ X c Wx (e :: es) (w :: ws)
theorem AJ.pj {es : List Expr} {ws : List AE} (h : AJ X c Wx es ws) : PJ X es (ws.map (liftE c Wx)) := by
  induction h with
  | nil => exact .nil
  | cons h r ih => exact .cons h ih
theorem js_lift : ∀ (ws : List AE) (acc : Str) (σ : L2.St) (H H0 : Hp) (Q : Str → Hp → Prop) (Av Av0 : AvS) (env : Env) (Qa : Str → Env → Prop) (Xa : AX), Good c Av σ H env → Mono Av0 H0 Av H → wJs ws acc env Qa Xa → (∀ s env' Av' H', Qa s env' → Good c Av' σ H' env' → Mono Av0 H0 Av' H' → Q s H') → ExE c Wx σ Av0 H0 Xa → tJs (ws.map (liftE c Wx)) acc σ H Q
  | [], acc, σ, H, H0, Q, Av, Av0, env, Qa, Xa, g, m, q, k, xx => k acc env Av H q g m
  | w :: ws, acc, σ, H, H0, Q, Av, Av0, env, Qa, Xa, g, m, q, k, xx => by
    refine ⟨Av, env, _, Xa, g, q, fun d env1 v Av1 H1 q1 g1 m1 d1 => ?_, xx.mono m⟩
    obtain ⟨y, rfl, hy, q2⟩ := q1
    cases d1
    exact ⟨y, rfl, hy, js_lift ws (acc ++ y) σ H1 H0 Q Av1 Av0 env1 Qa Xa g1 (m.trans m1) q2 k xx⟩
theorem a_fstr {v1 v2 : Expr} {rest : List Expr} (h : AJ X c Wx (v1 :: v2 :: rest) ws) : PE X (.JoinedStr (v1 :: v2 :: rest) pos) (liftE c Wx (wFstr ws)) := PE.imp (fun σ H Q ⟨Av, env, Qa, Xa, g, q, k, xx⟩ =>
  js_lift ws Str.empty σ H H _ Av Av env _ Xa g Mono.refl q (fun s env' Av' H' q' g' m' => k _ env' _ Av' H' q' g' m' (.str s)) xx) (pe_joined h.pj)
/-! ### xs.insert(i, v) -/
def wInsert (i : Nat) (wi wa : AE) (env : Env) (Q : D → Env → Prop) (X : AX) : Prop := (∃ s ds, env[i]? = some s ∧ mutOf s = some ds) ∧ wi env (fun z env1 => ∃ n : Nat, z = .int n ∧ wa env1 (fun d env2 => ∃ s ds, env2[i]? = some s ∧ mutOf s = some ds ∧ ds.length < sizeLine ∧ n < 2 ^ 60 ∧ Q .non (env2.set i (setMut s (ds.take n ++ [d] ++ ds.drop n)))) X) X
theorem a_insert (hp : PE X (.Name x p) (tVar i)) (ha : PE X a (liftE c Wx wa)) (hb : PE X b (liftE c Wx wb))
    (hbase : attributeBase (.Name x p) "insert" X.env (eval (.Name x p) X.env) = eval (.Name x p) X.env := by rfl)
    (hfew : ((backTo cpos (starEach [a, b] X.env)).all (fun x => !x.1) && (backToKw cpos (keywordEach [] X.env)).all (fun x => x.1.isSome)
      && decide (([a, b] : List Expr).length + ([] : List Keyword).length + (if ([] : List Keyword).isEmpty then 0 else 1) < 30)) = true := by rfl)
    (hline : (apos.endLine == cpos.line) = true := by rfl) (hs : starEach [a, b] X.env = (false, eval a X.env) :: starEach [b] X.env := by rfl) (hs2 : starEach [b] X.env = (false, eval b X.env) :: starEach [] X.env := by rfl) (hplain : (backTo cpos (starEach [b] X.env)).any (·.1) = false := by rfl) :
    PE X (.Call (.Attribute (.Name x p) "insert" apos) [a, b] [] cpos) (liftE c Wx (wInsert i wa wb)) := PE.imp (fun σ H Q ⟨Av, env, Qa, Xa, g, ⟨⟨s, ds, e1, e2⟩, q⟩, k, xx⟩ => by
      obtain ⟨l, vs, e3, av, e4, _⟩ := g.mutAt e1 e2
      refine ⟨_, e3, .inl ⟨rfl, _, .inl (.inl e4)⟩, Av, env, _, Xa, g, q, fun d env1 v Av1 H1 q1 g1 m1 d1 => ?_, xx⟩
      obtain ⟨n, rfl, q1⟩ := q1
      cases d1
      refine ⟨Av1, env1, _, Xa, g1, q1, fun d2 env2 v2 Av2 H2 q2 g2 m2 d2' => ?_, xx.mono m1⟩
      obtain ⟨s', ds', f1, f2, f3, f3', q2⟩ := q2
      obtain ⟨l', vs', f4, av', f5, f6, f7⟩ := g2.mutAt f1 f2
      rw [e3] at f4; cases f4
      obtain ⟨g3, m3⟩ := f7 _ _ (((f6.take n).append (.cons d2' .nil)).append (f6.drop n))
      refine ⟨l, vs', (n : Int), v2, rfl, rfl, f5, by rw [f6.length]; exact f3, by omega, by omega, ?_⟩
      exact k _ _ _ Av2 _ q2 g3 ((m1.trans m2).trans m3) .non) (pe_bm PySem.F.plainAttrs_list PySem.F.slot_list_insert PySem.F.type_list_insert mt_insert hp (pa_cons ha (pa_cons hb pa_nil hs2) hs) hbase hfew hline hs hplain)
/-! ### list * n -/
def repD : D → D → (List D → Prop) → Prop
  | .lst ds, .int k, K => -(2 ^ 63) ≤ k ∧ k < 2 ^ 63 ∧ ds.length * k.toNat ≤ sizeLine ∧ K (List.replicate k.toNat ds).flatten
  | _, _, _ => False
theorem dens_rep {Av : AvS} {H : Hp} {vs : List V} {ds : List D} (h : Dens Av H vs ds) : ∀ n : Nat, Dens Av H (List.replicate n vs).flatten (List.replicate n ds).flatten
  | 0 => .nil
  | n + 1 => by
    rw [List.replicate_succ, List.replicate_succ, List.flatten_cons, List.flatten_cons]
    exact h.append (dens_rep h n)
theorem opf_rep : OpF rRep repD := by
  intro Av H x y d1 d2 k Q hl h1 h2 r kk
  cases h1 with
  | lst h na q =>
    cases h2 with
    | int i =>
      obtain ⟨r1, r2, r3, r⟩ := r
      exact ⟨_, i, _, rfl, rfl, h, r1, r2, by rw [q.length]; exact r3, fun p hp => kk _ _ p r hp (dens_rep q _)⟩
    | _ => exact r.elim
  | _ => cases h2 <;> exact r.elim
theorem a_rep (ha : PE X a (liftE c Wx wa)) (hb : PE X b (liftE c Wx wb)) : PE X (.BinOp a .Mult b pos) (liftF c Wx (wOpF repD wa wb)) := a_opF op_rep opf_rep ha hb
/-! ### x = dict(list(e.items())) -/
theorem putK_newI {κ : Type} [DecidableEq κ] {kvs : List (κ × V)} {k : κ} {v : V} (h : k ∉ kvs.map (·.1)) : putK kvs k v = kvs ++ [(k, v)] := by
  unfold putK
  rw [if_neg]
  rw [List.any_eq_true]
  rintro ⟨q, hq, e⟩
  exact h (List.mem_map.mpr ⟨q, hq, by simpa using e⟩)
theorem merge_nodup : ∀ (more kvs : List (Key × V)), ((kvs ++ more).map (·.1)).Nodup → mergeK kvs more = kvs ++ more
  | [], kvs, _ => by simp [mergeK]
  | (k, v) :: more, kvs, h => by
    have h0 : k ∉ kvs.map (·.1) := by
      rw [List.map_append, List.map_cons] at h
      intro z
      exact (List.nodup_append.mp h).2.2 _ z _ List.mem_cons_self rfl
    show mergeK (putK kvs k v) more = _
    rw [putK_newI h0, merge_nodup more (kvs ++ [(k, v)]) (by simpa using h)]
    simp
theorem paired_imp {α β : Type} {F G : α → β → Prop} (k : ∀ x y, F x y → G x y) : ∀ {xs : List α} {ys : List β}, Paired F xs ys → Paired G xs ys
  | _, _, .nil => .nil
  | _, _, .cons h t => .cons (k _ _ h) (paired_imp k t)
def wSetDI (i : Nat) (we : AE) (env : Env) (A : AEnds) : Prop := we env (fun d env1 => ∃ ks ds, d = .dic ks ds ∧ ks.Nodup ∧ A.nx (env1.set i (.box none (.dic ks ds)))) A.ex
theorem s_setDI {pos' q1 q2 q3 q4 : Pos} (hc : X.calm = true) (hN : X.N.Nodup) (hi : X.N[i]? = some x) (hx : Loc X.env.scope x) (hgd : Gl X "dict") (hmd : X.mg "dict" = none) (hgl : Gl X "list") (hml : X.mg "list" = none) (he : PE X e (liftE c Wx we))
    (hbase : attributeBase e "items" X.env (eval e X.env) = eval e X.env := by rfl) (hline : (apos.endLine == cpos.line) = true := by rfl)
    (hs1 : starEach [.Call (.Attribute e "items" apos) [] [] cpos] X.env = (false, eval (.Call (.Attribute e "items" apos) [] [] cpos) X.env) :: starEach [] X.env := by rfl)
    (hs2 : starEach [.Call (.Name "list" q1) [.Call (.Attribute e "items" apos) [] [] cpos] [] q2] X.env = (false, eval (.Call (.Name "list" q1) [.Call (.Attribute e "items" apos) [] [] cpos] [] q2) X.env) :: starEach [] X.env := by rfl) (hpl : (backTo q4 (starEach [] X.env)).any (·.1) = false := by rfl)
    (hs : swapsWith (.Call (.Name "dict" q3) [.Call (.Name "list" q1) [.Call (.Attribute e "items" apos) [] [] cpos] [] q2] [] q4) (some (.Name x pos')) pos.line X.env = pure false := by rfl) (hf : X.fn x = true ∨ X.env.scope.names.lookup x = some .local := by first | exact .inl rfl | exact .inr rfl | assumption) :
    PS X (.Assign [.Name x pos'] (.Call (.Name "dict" q3) [.Call (.Name "list" q1) [.Call (.Attribute e "items" apos) [] [] cpos] [] q2] [] q4) pos) (liftS c Wx (wSetDI i we)) := PS.imp (fun D σ H ⟨Av, env, A, g, q, E⟩ => by
      refine ⟨Av, env, _, _, g, q, fun d env1 v Av1 H1 qd g1 m1 d1 => ?_, E.ex _⟩
      obtain ⟨ks, ds, rfl, hnd, qd⟩ := qd
      cases d1 with
      | @dic a kvs _ h na dn =>
        refine ⟨a, kvs, rfl, h, fun H' p ts hk hp hts hpt hp' pr => ?_⟩
        have g2 := g1.grow hk
        refine ⟨p, ts, kvs, rfl, .inl (.inl hp'), ?_, fun pp hpp => ?_⟩
        · exact paired_imp (fun _ _ h => .inl (.inl h)) pr
        · rw [merge_nodup kvs [] (by simpa using hnd), List.nil_append]
          have m2 : Mono Av1 H1 Av1 H' := Mono.grow hk
          obtain ⟨Av', g', m'⟩ := g2.newBox (x := .dic (kvs.map (·.1)) ds) (ob := .dK kvs) hpp pla_dK (fun Av' m => ⟨kvs, upd_same, rfl, (dn.mono m2).mono m⟩) i
          exact E.nx _ Av' _ _ qd g' ((m1.trans m2).trans m')) (ps_set hN hi hx (pe_callTy (call_dictP hc) hgd hmd (by decide +kernel) (pa_cons (pe_listItems hc he hgl hml (by decide +kernel) hbase hline hs1) pa_nil hs2) (by decide) (by decide) hs2 hpl) hs hf)
end
end DL
set_option Elab.async false
set_option linter.all false
set_option maxRecDepth 100000
set_option maxHeartbeats 4000000
/-! A book with a pair of rivals more, less. -/
namespace WB
open PySem PySem.Spec PyProof.Rows L2 DL TL
def bkOf (L : Lore) : Bk := ⟨txt (loreLines L), L.cl, L.rv.map (seqP L.cl), L.ks⟩
def Lore.more (L : Lore) (p : PStr) : Lore := ⟨L.cl, L.rv ++ [p], L.ks⟩
def notP (s t : Str) (p : PStr) : Bool := !(decide (p = (s, t)) || decide (p = (t, s)))
def Lore.less (L : Lore) (s t : Str) : Lore := ⟨L.cl, L.rv.filter (notP s t), L.ks⟩
theorem pairsOf_or : ∀ {l : List Str} {s t : Str}, s ∈ l → t ∈ l → s ≠ t → (s, t) ∈ WB.pairsOf l ∨ (t, s) ∈ WB.pairsOf l
  | x :: r, s, t, hs, ht, hne => by
    rcases List.mem_cons.mp hs with es | hs
    · rcases List.mem_cons.mp ht with et | ht
      · exact absurd (es.trans et.symm) hne
      · exact .inl (List.mem_append_left _ (List.mem_map.mpr ⟨t, ht, by rw [es]⟩))
    · rcases List.mem_cons.mp ht with et | ht
      · exact .inr (List.mem_append_left _ (List.mem_map.mpr ⟨s, hs, by rw [et]⟩))
      · exact (pairsOf_or hs ht hne).imp (List.mem_append_right _) (List.mem_append_right _)
theorem seqP_same {cl : List Str} {p q : PStr} (h : seqP cl p = seqP cl q) : p = q ∨ p = swapP q := by
  rcases seqP_or cl p with hp | hp <;> rcases seqP_or cl q with hq | hq <;> rw [hp, hq] at h
  · exact .inl h
  · exact .inr h
  · right; obtain ⟨a, b⟩ := p; obtain ⟨c, d⟩ := q; simp only [swapP, Prod.mk.injEq] at h ⊢; exact ⟨h.2, h.1⟩
  · left; obtain ⟨a, b⟩ := p; obtain ⟨c, d⟩ := q; simp only [swapP, Prod.mk.injEq] at h ⊢; exact ⟨h.2, h.1⟩
theorem lore_more {L : Lore} {s t : Str} (ok : LoreOk L) (hs : s ∈ L.cl) (ht : t ∈ L.cl) (hne : s ≠ t) (hno : arR L.rv s t = false) : LoreOk (L.more (s, t)) := by
  refine ⟨ok.good, ok.wd, fun p hp => ?_, ?_, ok.k0, ok.k4, ok.kn, ok.kd⟩
  · rcases List.mem_append.mp hp with hp | hp
    · exact ok.rv p hp
    · rw [List.mem_singleton.mp hp]
      exact pairsOf_or hs ht hne
  · show ((L.rv ++ [(s, t)]).map (seqP L.cl)).Nodup
    rw [List.map_append]
    refine List.nodup_append.mpr ⟨ok.rn, by simp, fun a ha b hb e => ?_⟩
    obtain ⟨q, hq, rfl⟩ := List.mem_map.mp ha
    have hb : b = seqP L.cl (s, t) := by simpa using hb
    rw [hb] at e
    unfold arR at hno
    rcases seqP_same e with e | e
    · subst e; simp [hq] at hno
    · subst e; simp [swapP] at hq; simp [hq] at hno
theorem lore_less {L : Lore} {s t : Str} (ok : LoreOk L) : LoreOk (L.less s t) :=
  ⟨ok.good, ok.wd, fun p hp => ok.rv p (List.mem_filter.mp hp).1, ((List.filter_sublist (p := notP s t) (l := L.rv)).map (seqP L.cl)).nodup ok.rn, ok.k0, ok.k4, ok.kn, ok.kd⟩
theorem lore_split {L : Lore} (ok : LoreOk L) : Txt.split (txt (loreLines L)) nl = (loreLines L).map ln := ((part_lore ok).1.lines (by simp [loreLines])).split
theorem lines_more {L : Lore} {p : PStr} {n : Nat} (hn : n = 1 + L.rv.length) : ((loreLines L).map ln).take n ++ [ln (rivalLine p)] ++ ((loreLines L).map ln).drop n = (loreLines (L.more p)).map ln := by
  subst hn
  have e1 : loreLines L = (cLine L.cl :: L.rv.map rivalLine) ++ L.ks.flatMap kindLines := rfl
  have hl : 1 + L.rv.length = ((cLine L.cl :: L.rv.map rivalLine).map ln).length := by simp; omega
  rw [e1, List.map_append, hl, List.take_left, List.drop_left]
  show _ = (cLine L.cl :: ((L.rv ++ [p]).map rivalLine ++ L.ks.flatMap kindLines)).map ln
  simp
theorem ln_inj {a b : List Str} (ha : a ≠ []) (hb : b ≠ []) (pa : ∀ w ∈ a, Plain w) (pb : ∀ w ∈ b, Plain w) (h : ln a = ln b) : a = b := by
  rw [← words_ln ha pa, ← words_ln hb pb, h]
theorem lines_less {L : Lore} {s t : Str} (ok : LoreOk L) (hs : Wd s) (ht : Wd t) : (((loreLines L).map ln).filter fun l => !(decide (l = ln (rivalLine (s, t))) || decide (l = ln (rivalLine (t, s))))) = (loreLines (L.less s t)).map ln := by
  have hp := (part_lore ok).1
  have pr : ∀ {a b : Str}, Wd a → Wd b → ∀ w ∈ rivalLine (a, b), Plain w := fun ha hb w hw => by
    simp only [List.mem_cons, List.not_mem_nil, or_false] at hw
    rcases hw with rfl | rfl | rfl
    · exact (wd_of (by decide +kernel) : Wd "rivals").pl
    · exact ha.pl
    · exact hb.pl
  have key : ∀ l ∈ loreLines L, ∀ {a b : Str}, Wd a → Wd b → (ln l = ln (rivalLine (a, b)) ↔ l = rivalLine (a, b)) := fun l hl a b ha hb => ⟨fun h => ln_inj (hp l hl).ne (by simp) (fun w hw => ((hp l hl).wd w hw).pl) (pr ha hb) h, fun h => by rw [h]⟩
  rw [List.filter_map]
  congr 1
  have e : ((fun l => !(decide (l = ln (rivalLine (s, t))) || decide (l = ln (rivalLine (t, s))))) ∘ ln) = fun l => !(decide (ln l = ln (rivalLine (s, t))) || decide (ln l = ln (rivalLine (t, s)))) := rfl
  rw [e]
  have e2 : ((loreLines L).filter fun l => !(decide (ln l = ln (rivalLine (s, t))) || decide (ln l = ln (rivalLine (t, s))))) = (loreLines L).filter fun l => !(decide (l = rivalLine (s, t)) || decide (l = rivalLine (t, s))) := by
    refine List.filter_congr fun l hl => ?_
    rw [decide_eq_decide.mpr (key l hl hs ht), decide_eq_decide.mpr (key l hl ht hs)]
  rw [e2]
  have nr : ∀ {w : Str} {ws : List Str}, w ≠ "rivals" → (!(decide (w :: ws = rivalLine (s, t)) || decide (w :: ws = rivalLine (t, s)))) = true := fun hw => by simp [hw]
  show List.filter _ (cLine L.cl :: (L.rv.map rivalLine ++ L.ks.flatMap kindLines)) = cLine L.cl :: ((L.rv.filter (notP s t)).map rivalLine ++ L.ks.flatMap kindLines)
  rw [List.filter_cons_of_pos (p := fun l => !(decide (l = rivalLine (s, t)) || decide (l = rivalLine (t, s)))) (nr (by decide +kernel)), List.filter_append]
  congr 2
  · rw [List.filter_map]
    congr 1
    refine List.filter_congr fun p _ => ?_
    obtain ⟨a, b⟩ := p
    simp [notP, Function.comp_def]
  · refine List.filter_eq_self.mpr fun l hl => ?_
    obtain ⟨k, _, hk⟩ := List.mem_flatMap.mp hl
    simp only [kindLines, List.mem_cons, List.not_mem_nil, or_false] at hk
    rcases hk with rfl | rfl | rfl <;> exact nr (by decide +kernel)
theorem put_rv (x y z v : D) : D.dic (putKs [Sum.inr (Str.ofString "clients"), Sum.inr (Str.ofString "rivals"), Sum.inr (Str.ofString "kinds")] (Sum.inr (Str.ofString "rivals"))) (putDs [Sum.inr (Str.ofString "clients"), Sum.inr (Str.ofString "rivals"), Sum.inr (Str.ofString "kinds")] [x, y, z] (Sum.inr (Str.ofString "rivals")) v) = .dic [Sum.inr (Str.ofString "clients"), Sum.inr (Str.ofString "rivals"), Sum.inr (Str.ofString "kinds")] [x, v, z] := by
  have h : (Sum.inr (Str.ofString "clients") : Key) ≠ Sum.inr (Str.ofString "rivals") := by decide +kernel
  have h3 : ¬ (Str.ofString "kinds" = Str.ofString "rivals") := by decide +kernel
  simp [putKs, putDs, replD, h, h3]
theorem put_ks (x y z v : D) : D.dic (putKs [Sum.inr (Str.ofString "clients"), Sum.inr (Str.ofString "rivals"), Sum.inr (Str.ofString "kinds")] (Sum.inr (Str.ofString "kinds"))) (putDs [Sum.inr (Str.ofString "clients"), Sum.inr (Str.ofString "rivals"), Sum.inr (Str.ofString "kinds")] [x, y, z] (Sum.inr (Str.ofString "kinds")) v) = .dic [Sum.inr (Str.ofString "clients"), Sum.inr (Str.ofString "rivals"), Sum.inr (Str.ofString "kinds")] [x, y, v] := by
  have h : (Sum.inr (Str.ofString "clients") : Key) ≠ Sum.inr (Str.ofString "kinds") := by decide +kernel
  have h2 : (Sum.inr (Str.ofString "rivals") : Key) ≠ Sum.inr (Str.ofString "kinds") := by decide +kernel
  simp [putKs, putDs, replD, h, h2]
theorem emp_app (x : Str) : Str.empty ++ x = x := by
  show (⟨#[] ++ x.cps⟩ : Str) = x
  rw [Array.empty_append]
theorem riv_len {s t : Str} (hs : s.length ≤ 10) (ht : t.length ≤ 10) : (Str.empty ++ Str.ofString "rivals ").length ≤ sizeLine ∧ s.length ≤ sizeLine ∧ (Str.empty ++ Str.ofString "rivals " ++ s).length ≤ sizeLine ∧ (Str.empty ++ Str.ofString "rivals " ++ s ++ Str.ofString " ").length ≤ sizeLine ∧ t.length ≤ sizeLine ∧ (Str.empty ++ Str.ofString "rivals " ++ s ++ Str.ofString " " ++ t).length ≤ sizeLine := by
  have e1 : Str.empty.length = 0 := rfl
  have e2 : (Str.ofString "rivals ").length = 7 := rfl
  have e3 : (Str.ofString " ").length = 1 := rfl
  refine ⟨sl_big ?_, sl_big (by omega), sl_big ?_, sl_big ?_, sl_big (by omega), sl_big ?_⟩ <;> simp only [Str.length_append] <;> omega
theorem lore_len {L : Lore} (ok : LoreOk L) : (loreLines L).length ≤ 41 := (part_lore ok).2
theorem oneOf2 {ms : List Str} {x y : D} {k : Str → Str → Prop} {no : D → Prop} (h1 : memS ms x = false → no x) (h2 : ∀ s, x = .str s → s ∈ ms → memS ms y = false → no y) (h3 : ∀ s t, x = .str s → y = .str t → s ∈ ms → t ∈ ms → k s t) : OneOf ms x (fun s => OneOf ms y (fun t => k s t) no) no := by
  have str : ∀ {z : D}, memS ms z = true → ∃ s, z = .str s ∧ s ∈ ms := fun {z} h => by
    cases z with
    | str s => exact ⟨s, rfl, by simpa [memS] using h⟩
    | _ => cases h
  by_cases hx : memS ms x = true
  · obtain ⟨s, rfl, hs⟩ := str hx
    refine oneOf_yes hs ?_
    by_cases hy : memS ms y = true
    · obtain ⟨t, rfl, ht⟩ := str hy
      exact oneOf_yes ht (h3 s t rfl rfl hs ht)
    · exact oneOf_no (eq_false_of_ne_true hy) (h2 s rfl hs (eq_false_of_ne_true hy))
  · exact oneOf_no (eq_false_of_ne_true hx) (h1 (eq_false_of_ne_true hx))
theorem memS_str {ms : List Str} {s : Str} (h : s ∈ ms) : memS ms (.str s) = true := by simpa [memS] using h
theorem arR_self {L : Lore} (ok : LoreOk L) (s : Str) : arR L.rv s s = false := by
  unfold arR
  have h : (s, s) ∉ L.rv := fun h => by
    rcases ok.rv _ h with z | z
    · exact pairsOf_ne ok.good.nd _ z rfl
    · exact pairsOf_ne ok.good.nd _ z rfl
  simp [h]
theorem less_none {L : Lore} {s t : Str} (h : arR L.rv s t = false) : L.rv.filter (notP s t) = L.rv := List.filter_eq_self.mpr fun p hp => by
  unfold arR at h
  unfold notP
  simp only [Bool.or_eq_false_iff, decide_eq_false_iff_not] at h
  have h1 : p ≠ (s, t) := fun e => h.1 (e ▸ hp)
  have h2 : p ≠ (t, s) := fun e => h.2 (e ▸ hp)
  simp [h1, h2]
theorem memS_ex {ms : List Str} {z : D} (h : memS ms z = true) : ∃ s, z = .str s ∧ s ∈ ms := by
  cases z with
  | str s => exact ⟨s, rfl, by simpa [memS] using h⟩
  | _ => cases h
theorem oneOf2E {ms : List Str} {x y : D} {k : Str → Str → Prop} {no : D → Prop} (h : OneOf ms x (fun s => OneOf ms y (fun t => k s t) no) no) : (memS ms x = false → no x) ∧ (memS ms x = true → memS ms y = false → no y) ∧ ∀ s t, x = .str s → y = .str t → s ∈ ms → t ∈ ms → k s t := by
  have h := oneOf_mem h
  refine ⟨fun hx => ?_, fun hx hy => ?_, fun s t hx hy hs ht => ?_⟩
  · rw [if_neg (by simp [hx])] at h
    exact h
  · rw [if_pos hx] at h
    obtain ⟨s, _, _, h⟩ := h
    have h := oneOf_mem h
    rw [if_neg (by simp [hy])] at h
    exact h
  · subst hx; subst hy
    rw [if_pos (memS_str hs)] at h
    obtain ⟨s', e, _, h⟩ := h
    cases e
    have h := oneOf_mem h
    rw [if_pos (memS_str ht)] at h
    obtain ⟨t', e, _, h⟩ := h
    cases e
    exact h
end WB
set_option Elab.async false
set_option linter.all false
set_option maxRecDepth 100000
set_option maxHeartbeats 4000000
namespace K05
open PySem PySem.Spec PyProof.Rows L2 DL WB LamX
abbrev prog0 : Program := PySem.Challenge.pw_wallbooks_k05_books_with_other_rivals
def top (i : Nat) : Stmt := prog0.main.body.getD i (.Pass ⟨0, 0, 0, 0⟩)
theorem calm0 {A : Around} : CalmB false A := fun z => nomatch z
structure Blt (mg : Str → Option Value) : Prop where
  len : mg "len" = none
  abs : mg "abs" = none
  int : mg "int" = none
  max : mg "max" = none
  min : mg "min" = none
  list : mg "list" = none
  tuple : mg "tuple" = none
  range : mg "range" = none
  repr : mg "repr" = none
  isinstance : mg "isinstance" = none
  enumerate : mg "enumerate" = none
  all : mg "all" = none
  sorted : mg "sorted" = none
  set : mg "set" = none
  str : mg "str" = none
  dict : mg "dict" = none
def errNames : List Str := ["WallError", "BadBook", "NoClient", "NoKind", "BadRivals"]
/-- of the classes of errors -/
structure ErrX (K : PySem.W.Frag) (mg : Str → Option Value) (cls : Nat → Addr) : Prop where
  mg : ∀ (i : Nat) x, errNames[i]? = some x → mg x = some (.ref (cls i))
  ec : ∀ i, i < 5 → ExcC K (cls i)
  nv : ∀ i, i < 5 → PySem.W.findIn K (.ref (cls i)) "value" = some none
  kit : ∀ i, i < 5 → PySem.W.kitOne K (.ref (cls i)) (.ref (cls i)) = some true
  exm : ∀ i, i < 5 → PySem.W.exmOne K (.ref (cls i)) (.ref (cls 0)) = some true
abbrev S_is_name : Stmt := top 8
theorem sc_is_name : FnScope ["word"] ["word"] (defScope S_is_name) := ⟨rfl, rfl, rfl, by decide +kernel, rfl, by decide +kernel, by decide +kernel⟩
abbrev S_are_names : Stmt := top 9
theorem sc_are_names : FnScope ["words", "word"] ["words"] (defScope S_are_names) := ⟨rfl, rfl, rfl, by decide +kernel, rfl, by decide +kernel, by decide +kernel⟩
abbrev S_in_sequence : Stmt := top 10
theorem sc_in_sequence : FnScope ["clients", "members", "client"] ["clients", "members"] (defScope S_in_sequence) := ⟨rfl, rfl, rfl, by decide +kernel, rfl, by decide +kernel, by decide +kernel⟩
abbrev S_is_lot : Stmt := top 11
theorem sc_is_lot : FnScope ["clients", "value"] ["clients", "value"] (defScope S_is_lot) := ⟨rfl, rfl, rfl, by decide +kernel, rfl, by decide +kernel, by decide +kernel⟩
abbrev S_need : Stmt := top 19
theorem sc_need : FnScope ["holds", "at"] ["holds", "at"] (defScope S_need) := ⟨rfl, rfl, rfl, by decide +kernel, rfl, by decide +kernel, by decide +kernel⟩
abbrev S_words_behind : Stmt := top 18
theorem sc_words_behind : FnScope ["lines", "at", "first", "words"] ["lines", "at", "first"] (defScope S_words_behind) := ⟨rfl, rfl, rfl, by decide +kernel, rfl, by decide +kernel, by decide +kernel⟩
abbrev S_read_lot : Stmt := top 17
theorem sc_read_lot : FnScope ["clients", "lines", "at", "first", "lot"] ["clients", "lines", "at", "first"] (defScope S_read_lot) := ⟨rfl, rfl, rfl, by decide +kernel, rfl, by decide +kernel, by decide +kernel⟩
abbrev S_read_clients : Stmt := top 14
theorem sc_read_clients : FnScope ["lines", "names"] ["lines"] (defScope S_read_clients) := ⟨rfl, rfl, rfl, by decide +kernel, rfl, by decide +kernel, by decide +kernel⟩
abbrev S_read_rivals : Stmt := top 15
theorem sc_read_rivals : FnScope ["clients", "lines", "pairs", "at", "words", "pair"] ["clients", "lines"] (defScope S_read_rivals) := ⟨rfl, rfl, rfl, by decide +kernel, rfl, by decide +kernel, by decide +kernel⟩
abbrev S_read_kinds : Stmt := top 16
theorem sc_read_kinds : FnScope ["clients", "lines", "start", "rights", "at", "names", "looks", "writes"] ["clients", "lines", "start"] (defScope S_read_kinds) := ⟨rfl, rfl, rfl, by decide +kernel, rfl, by decide +kernel, by decide +kernel⟩
abbrev S_Book___init__ : Stmt := inClass (top 13) 0
theorem sc_Book___init__ : FnScope ["self", "text", "lines", "clients", "rivals", "rights"] ["self", "text"] (defScope S_Book___init__) := ⟨rfl, rfl, rfl, by decide +kernel, rfl, by decide +kernel, by decide +kernel⟩
section
variable {P : Program} {w : World} {K : PySem.W.Frag} {mg : Str → Option Value} {base : Heap} {τ : TBL} {cls : Nat → Addr}
theorem ok_is_name (B : Blt mg) (T : DefT K mg "is_name" S_is_name ["word"]) : DefE P w K mg base τ false 1 "is_name" ["word"] 1 none cIsName := by
  refine def_E (k := 0) T sc_is_name rfl (by decide) fun f cdv A outer s H E c hr hG => ⟨_, (s_one (s_ret (a_and (a_le (a_cb call_len calld_len rfl B.len PySem.boot_len (aa_cons (a_var (pv 0)) aa_nil)) a_int) (a_and (a_sm0 (C := fun _ => True) (gv := fun s => .bl (Txt.isascii s)) (f := fun s => .bl (Txt.isascii s)) (fun _ _ _ => .bl _) PySem.F.slot_str_isascii PySem.F.type_str_isascii mt_isascii (a_var (pv 0))) (a_and (a_sm0 (C := fun _ => True) (gv := fun s => .bl (Txt.isalpha s)) (f := fun s => .bl (Txt.isalpha s)) (fun _ _ _ => .bl _) PySem.F.slot_str_isalpha PySem.F.type_str_isalpha mt_isalpha (a_var (pv 0))) (a_one (a_sm0 (C := fun _ => True) (gv := fun s => .bl (Txt.islower s)) (f := fun s => .bl (Txt.islower s)) (fun _ _ _ => .bl _) PySem.F.slot_str_islower PySem.F.type_str_islower mt_islower (a_var (pv 0))))))))), ?_⟩
  rintro a ds m Qd Xd hl hm ⟨x, rfl, hx, k⟩
  obtain rfl := hm rfl
  simp only [wSeqR, Rest_cons, wIf, wB, wOp, wOpF, gtD, ltD, geD, leD, intD0, DL.intD, subD, mulD, fdivD, modD, powD, addD, catD, wIxM, wC, wSet, wSetF, wSetM, wRet, wRetF, wRetN, wVar, wFv, wLst, wTup, wCB, wCBF, wCons, wNil, wRef, wNext, wDrop, wAnd, wOr, wNot, wAndV, wOrV, wNotV, wIfE, wNeg, intC, absD, maxD, minD, lenD, wLenM, atDd, atD, mutOf, setMut, agR, agDs, env0, parm, bodyEnds, bodyEndsF, gN, wAsg, exists_eq_left, exists_eq_left', exists_eq, exists_eq', Option.some.injEq, D.int.injEq, Sl.bor.injEq, Sl.own.injEq, Sl.val.injEq, D.bl.injEq, D.str.injEq, D.lst.injEq, D.tup.injEq, and_true, true_and, exists_const, exists_and_left, exists_and_right, List.getElem?_cons_zero, List.getElem?_cons_succ, List.set_cons_zero, List.set_cons_succ, List.length_cons, List.length_nil, decide_eq_true_eq, if_true, if_false, ite_true, ite_false, List.replicate, List.append_nil, List.nil_append, List.cons_append, List.append_eq, atI0, atI1, atI2, ixN0, ixN1, ixN2, ix30, ix31, ix32, Nat.zero_add, Nat.reduceAdd, Nat.reduceSub, Nat.reduceLeDiff, Option.some.injEq, reduceCtorEq, if_pos, List.replicate_succ, List.replicate_zero, wCall, wCallF, wCon, wConF, wLRg1, agR, agDs, wMkE, wExtend, wAppend, wDic, wDNew, wVals, wValE, Ag.vl.injEq, List.cons.injEq, wFor_eq, wIn, wEnum, wLc_eq, wRange, wYes, gTupD, gConsD, gNilD, List.map_cons, List.map_nil, wipeE, wSplit, wSm0, wChain, wSlF, wPart, wNoP, wWhile_eq, wAug, wPar, wPar3, wPopAt, wRaise, wSetD, wSetK, wLenB, wNinB, wTru, wTruB, wVarB, wFld, wSetA, wMake, wMeth, wTold, wParFF, wParVF, wJoin, wLenSet, isN, isNoneD, wInM, Sl.box.injEq, D.dic.injEq, D.ins.injEq, wDun, wInI, wLenI, wBinI, id, wFstr, wJs, wFmt, wInsert, wSetDI]
  refine ⟨sl_big hx, ?_⟩
  unfold isName at k
  by_cases h1 : x.length ≤ 8
  · rw [if_pos (by omega)]
    rw [decide_eq_true h1, Bool.true_and] at k
    split
    · rename_i h2
      rw [h2, Bool.true_and] at k
      split
      · rename_i h3
        rw [h3, Bool.true_and] at k
        exact k
      · rename_i h3
        rw [eq_false_of_ne_true h3, Bool.false_and] at k
        exact k
    · rename_i h2
      rw [eq_false_of_ne_true h2, Bool.false_and] at k
      exact k
  · rw [if_neg (by omega)]
    rw [decide_eq_false h1, Bool.false_and] at k
    exact k
theorem ok_in_sequence (B : Blt mg) (hS : SysB base) (T : DefT K mg "in_sequence" S_in_sequence ["clients", "members"]) : DefE P w K mg base τ false 1 "in_sequence" ["clients", "members"] 2 none cInSeq := by
  refine def_E (k := 0) T sc_in_sequence rfl (by decide) fun f cdv A outer s H E c hr hG => ⟨_, (s_one (s_ret (a_ct call_tuple_of calld_tuple rfl B.tuple (by decide +kernel) (aa_cons (a_fv (a_lc (own := [("client", 2)]) rfl sc_in_sequence.nd (i_in (a_var (pv 0))) (blkOk_by (N := ["clients", "members", "client"]) (sc := defScope S_in_sequence) (by decide +kernel)) (fun _ _ _ _ _ => (pg_name (i := 2) sc_in_sequence.nd rfl (Or.inl rfl))) (fun _ => (GOkW.v (gokw_name (by decide)))) (fun _ _ _ _ _ _ => (ts_one (t_inP hS (units65 hr) (a_var (pv 2)) (a_var (pv 1))))) (fun _ _ _ _ _ _ => (a_var (pv 2))))) aa_nil)))), ?_⟩
  rintro a ds m Qd Xd hl hm ⟨cl, ms, d, rfl, hd, hc, hms, hl, k⟩
  obtain rfl := hm rfl
  simp only [wSeqR, Rest_cons, wIf, wB, wOp, wOpF, gtD, ltD, geD, leD, intD0, DL.intD, subD, mulD, fdivD, modD, powD, addD, catD, wIxM, wC, wSet, wSetF, wSetM, wRet, wRetF, wRetN, wVar, wFv, wLst, wTup, wCB, wCBF, wCons, wNil, wRef, wNext, wDrop, wAnd, wOr, wNot, wAndV, wOrV, wNotV, wIfE, wNeg, intC, absD, maxD, minD, lenD, wLenM, atDd, atD, mutOf, setMut, agR, agDs, env0, parm, bodyEnds, bodyEndsF, gN, wAsg, exists_eq_left, exists_eq_left', exists_eq, exists_eq', Option.some.injEq, D.int.injEq, Sl.bor.injEq, Sl.own.injEq, Sl.val.injEq, D.bl.injEq, D.str.injEq, D.lst.injEq, D.tup.injEq, and_true, true_and, exists_const, exists_and_left, exists_and_right, List.getElem?_cons_zero, List.getElem?_cons_succ, List.set_cons_zero, List.set_cons_succ, List.length_cons, List.length_nil, decide_eq_true_eq, if_true, if_false, ite_true, ite_false, List.replicate, List.append_nil, List.nil_append, List.cons_append, List.append_eq, atI0, atI1, atI2, ixN0, ixN1, ixN2, ix30, ix31, ix32, Nat.zero_add, Nat.reduceAdd, Nat.reduceSub, Nat.reduceLeDiff, Option.some.injEq, reduceCtorEq, if_pos, List.replicate_succ, List.replicate_zero, wCall, wCallF, wCon, wConF, wLRg1, agR, agDs, wMkE, wExtend, wAppend, wDic, wDNew, wVals, wValE, Ag.vl.injEq, List.cons.injEq, wFor_eq, wIn, wEnum, wLc_eq, wRange, wYes, gTupD, gConsD, gNilD, List.map_cons, List.map_nil, wipeE, wSplit, wSm0, wChain, wSlF, wPart, wNoP, wWhile_eq, wAug, wPar, wPar3, wPopAt, wRaise, wSetD, wSetK, wLenB, wNinB, wTru, wTruB, wVarB, wFld, wSetA, wMake, wMeth, wTold, wParFF, wParVF, wJoin, wLenSet, isN, isNoneD, wInM, Sl.box.injEq, D.dic.injEq, D.ins.injEq, wDun, wInI, wLenI, wBinI, id, wFstr, wJs, wFmt, wInsert, wSetDI, dLot]
  refine ⟨by rfl, lc_fm cl D.str (fun c => ms.contains c) D.str rfl (sl_big hl) (fun x hx acc G hz hG => ?_) ?_⟩
  · simp only [wSeqR, Rest_cons, wIf, wB, wOp, wOpF, gtD, ltD, geD, leD, intD0, DL.intD, subD, mulD, fdivD, modD, powD, addD, catD, wIxM, wC, wSet, wSetF, wSetM, wRet, wRetF, wRetN, wVar, wFv, wLst, wTup, wCB, wCBF, wCons, wNil, wRef, wNext, wDrop, wAnd, wOr, wNot, wAndV, wOrV, wNotV, wIfE, wNeg, intC, absD, maxD, minD, lenD, wLenM, atDd, atD, mutOf, setMut, agR, agDs, env0, parm, bodyEnds, bodyEndsF, gN, wAsg, exists_eq_left, exists_eq_left', exists_eq, exists_eq', Option.some.injEq, D.int.injEq, Sl.bor.injEq, Sl.own.injEq, Sl.val.injEq, D.bl.injEq, D.str.injEq, D.lst.injEq, D.tup.injEq, and_true, true_and, exists_const, exists_and_left, exists_and_right, List.getElem?_cons_zero, List.getElem?_cons_succ, List.set_cons_zero, List.set_cons_succ, List.length_cons, List.length_nil, decide_eq_true_eq, if_true, if_false, ite_true, ite_false, List.replicate, List.append_nil, List.nil_append, List.cons_append, List.append_eq, atI0, atI1, atI2, ixN0, ixN1, ixN2, ix30, ix31, ix32, Nat.zero_add, Nat.reduceAdd, Nat.reduceSub, Nat.reduceLeDiff, Option.some.injEq, reduceCtorEq, if_pos, List.replicate_succ, List.replicate_zero, wCall, wCallF, wCon, wConF, wLRg1, agR, agDs, wMkE, wExtend, wAppend, wDic, wDNew, wVals, wValE, Ag.vl.injEq, List.cons.injEq, wFor_eq, wIn, wEnum, wLc_eq, wRange, wYes, gTupD, gConsD, gNilD, List.map_cons, List.map_nil, wipeE, wSplit, wSm0, wChain, wSlF, wPart, wNoP, wWhile_eq, wAug, wPar, wPar3, wPopAt, wRaise, wSetD, wSetK, wLenB, wNinB, wTru, wTruB, wVarB, wFld, wSetA, wMake, wMeth, wTold, wParFF, wParVF, wJoin, wLenSet, isN, isNoneD, wInM, Sl.box.injEq, D.dic.injEq, D.ins.injEq, wDun, wInI, wLenI, wBinI, id, wFstr, wJs, wFmt, wInsert, wSetDI]
    refine inP_strs hd (hc x hx).ok (fun m hm => (hms m hm).ok) ⟨_, rfl, ?_⟩
    simp only [Bool.false_eq_true, if_false]
    cases h : ms.contains x with
    | true => rw [h, if_pos rfl] at hG; rw [if_pos rfl]; exact ⟨hz, hG⟩
    | false => rw [h, if_neg (by decide)] at hG; rw [if_neg (by decide)]; exact hG
  · exact k
theorem ok_is_lot (B : Blt mg) (hS : SysB base) (T : DefT K mg "is_lot" S_is_lot ["clients", "value"]) (Din_sequence : DefE P w K mg base τ false 1 "in_sequence" ["clients", "members"] 2 none cInSeq) (kt : PySem.W.kitOne K (.type "tuple") (.type "tuple") = some true) : DefE P w K mg base τ false 2 "is_lot" ["clients", "value"] 2 none cIsLot := by
  refine def_E (k := 1) T sc_is_lot rfl (by decide) fun f cdv A outer s H E c hr hG => ⟨_, (s_one (s_ret (a_and (a_cb (callR_of calli_isi) callD_rC rfl B.isinstance (by decide +kernel) (aa_cons (a_var (pv 1)) (aa_cons (a_globT (pe_bltn (v := .ty "tuple") (u := .type "tuple") rfl B.tuple (by decide +kernel) rfl)) aa_nil))) (a_one (a_eq hS hr.units (a_var (pv 1)) (a_callD Din_sequence hr (by omega) calm0 rfl (takes_of rfl rfl rfl rfl) (aa_cons (a_var (pv 0)) (aa_cons (a_var (pv 1)) aa_nil)))))))), ?_⟩
  rintro a ds m Qd Xd hl hm ⟨cl, ms, rfl, hc, hms, hl, k⟩
  obtain rfl := hm rfl
  simp only [wSeqR, Rest_cons, wIf, wB, wOp, wOpF, gtD, ltD, geD, leD, intD0, DL.intD, subD, mulD, fdivD, modD, powD, addD, catD, wIxM, wC, wSet, wSetF, wSetM, wRet, wRetF, wRetN, wVar, wFv, wLst, wTup, wCB, wCBF, wCons, wNil, wRef, wNext, wDrop, wAnd, wOr, wNot, wAndV, wOrV, wNotV, wIfE, wNeg, intC, absD, maxD, minD, lenD, wLenM, atDd, atD, mutOf, setMut, agR, agDs, env0, parm, bodyEnds, bodyEndsF, gN, wAsg, exists_eq_left, exists_eq_left', exists_eq, exists_eq', Option.some.injEq, D.int.injEq, Sl.bor.injEq, Sl.own.injEq, Sl.val.injEq, D.bl.injEq, D.str.injEq, D.lst.injEq, D.tup.injEq, and_true, true_and, exists_const, exists_and_left, exists_and_right, List.getElem?_cons_zero, List.getElem?_cons_succ, List.set_cons_zero, List.set_cons_succ, List.length_cons, List.length_nil, decide_eq_true_eq, if_true, if_false, ite_true, ite_false, List.replicate, List.append_nil, List.nil_append, List.cons_append, List.append_eq, atI0, atI1, atI2, ixN0, ixN1, ixN2, ix30, ix31, ix32, Nat.zero_add, Nat.reduceAdd, Nat.reduceSub, Nat.reduceLeDiff, Option.some.injEq, reduceCtorEq, if_pos, List.replicate_succ, List.replicate_zero, wCall, wCallF, wCon, wConF, wLRg1, agR, agDs, wMkE, wExtend, wAppend, wDic, wDNew, wVals, wValE, Ag.vl.injEq, List.cons.injEq, wFor_eq, wIn, wEnum, wLc_eq, wRange, wYes, gTupD, gConsD, gNilD, List.map_cons, List.map_nil, wipeE, wSplit, wSm0, wChain, wSlF, wPart, wNoP, wWhile_eq, wAug, wPar, wPar3, wPopAt, wRaise, wSetD, wSetK, wLenB, wNinB, wTru, wTruB, wVarB, wFld, wSetA, wMake, wMeth, wTold, wParFF, wParVF, wJoin, wLenSet, isN, isNoneD, wInM, Sl.box.injEq, D.dic.injEq, D.ins.injEq, wDun, wInI, wLenI, wBinI, id, wFstr, wJs, wFmt, wInsert, wSetDI, dLot]
  refine ⟨_, _, true, .tup _, .ty _, kt, true, rfl, ?_⟩
  rw [if_pos rfl]
  refine ⟨cl, ms, _, rfl, .inr rfl, hc, hms, hl, ?_⟩
  refine eqD_strs (fun m h => (hms m h).ok) (fun m h => (hc m (List.mem_filter.mp h).1).ok) ?_
  exact k
theorem ok_need (T : DefT K mg "need" S_need ["holds", "at"]) (R : ∀ (i : Nat) x, errNames[i]? = some x → RsE P w K mg base 1 x (cls i)) : DefE P w K mg base τ false 3 "need" ["holds", "at"] 2 none (cNeed (cls 1)) := by
  refine def_E (k := 2) T sc_need rfl (by decide) fun f cdv A outer s H E c hr hG => ⟨_, (s_one (s_if (t_not (t_val (a_var (pv 0)) (fun _ h => pt_val h)))
      (s_one (s_raise (R 1 _ rfl) rfl (takes_of rfl rfl rfl rfl) hr (by omega) rfl (aa_cons (a_add (a_var (pv 1)) a_int) aa_nil)))
      s_nil)), ?_⟩
  rintro a ds m Qd Xd hl hm ⟨b, i, rfl, k⟩
  obtain rfl := hm rfl
  simp only [wSeqR, Rest_cons, wIf, wB, wOp, wOpF, gtD, ltD, geD, leD, intD0, DL.intD, subD, mulD, fdivD, modD, powD, addD, catD, wIxM, wC, wSet, wSetF, wSetM, wRet, wRetF, wRetN, wVar, wFv, wLst, wTup, wCB, wCBF, wCons, wNil, wRef, wNext, wDrop, wAnd, wOr, wNot, wAndV, wOrV, wNotV, wIfE, wNeg, intC, absD, maxD, minD, lenD, wLenM, atDd, atD, mutOf, setMut, agR, agDs, env0, parm, bodyEnds, bodyEndsF, gN, wAsg, exists_eq_left, exists_eq_left', exists_eq, exists_eq', Option.some.injEq, D.int.injEq, Sl.bor.injEq, Sl.own.injEq, Sl.val.injEq, D.bl.injEq, D.str.injEq, D.lst.injEq, D.tup.injEq, and_true, true_and, exists_const, exists_and_left, exists_and_right, List.getElem?_cons_zero, List.getElem?_cons_succ, List.set_cons_zero, List.set_cons_succ, List.length_cons, List.length_nil, decide_eq_true_eq, if_true, if_false, ite_true, ite_false, List.replicate, List.append_nil, List.nil_append, List.cons_append, List.append_eq, atI0, atI1, atI2, ixN0, ixN1, ixN2, ix30, ix31, ix32, Nat.zero_add, Nat.reduceAdd, Nat.reduceSub, Nat.reduceLeDiff, Option.some.injEq, reduceCtorEq, if_pos, List.replicate_succ, List.replicate_zero, wCall, wCallF, wCon, wConF, wLRg1, agR, agDs, wMkE, wExtend, wAppend, wDic, wDNew, wVals, wValE, Ag.vl.injEq, List.cons.injEq, wFor_eq, wIn, wEnum, wLc_eq, wRange, wYes, gTupD, gConsD, gNilD, List.map_cons, List.map_nil, wipeE, wSplit, wSm0, wChain, wSlF, wPart, wNoP, wWhile_eq, wAug, wPar, wPar3, wPopAt, wRaise, wSetD, wSetK, wLenB, wNinB, wTru, wTruB, wVarB, wFld, wSetA, wMake, wMeth, wTold, wParFF, wParVF, wJoin, wLenSet, isN, isNoneD, wInM, Sl.box.injEq, D.dic.injEq, D.ins.injEq, wDun, wInI, wLenI, wBinI, id, wFstr, wJs, wFmt, wInsert, wSetDI]
  cases b with
  | true => exact k
  | false => exact k
theorem ok_words_behind (B : Blt mg) (hS : SysB base) (T : DefT K mg "words_behind" S_words_behind ["lines", "at", "first"]) (Dneed : DefE P w K mg base τ false 3 "need" ["holds", "at"] 2 none (cNeed (cls 1))) : DefF P w K mg base τ false 4 "words_behind" ["lines", "at", "first"] 3 none (cBehind (cls 1)) := by
  refine def_F (k := 3) T sc_words_behind rfl (by decide) fun f cdv A outer s H E c hr hG => ⟨_, (s_cons (s_expr (a_callD Dneed hr (by omega) calm0 rfl (takes_of rfl rfl rfl rfl) (aa_cons (a_lt (a_var (pv 1)) (a_cb call_len calld_len rfl B.len PySem.boot_len (aa_cons (a_var (pv 0)) aa_nil))) (aa_cons (a_var (pv 1)) aa_nil))))
      (s_cons (s_setF (i := 3) sc_words_behind.nd rfl (by first | exact .inl rfl | exact .inr rfl) (a_split (a_ix (units1 hr) (a_var (pv 0)) (a_var (pv 1)) (fun _ _ => rfl)) a_str))
      (s_cons (s_expr (a_callD Dneed hr (by omega) calm0 rfl (takes_of rfl rfl rfl rfl) (aa_cons (a_eq hS hr.units (a_ix (units1 hr) (a_var (pv 3)) a_int (fun _ _ => rfl)) (a_var (pv 2))) (aa_cons (a_var (pv 1)) aa_nil))))
      (s_one (s_retF (a_slF (a_var (pv 3)) (o_some a_int) o_none)))))), ?_⟩
  rintro a ds m Qd Xd hl hm ⟨ls, i, x, rfl, hls, hx, k⟩
  obtain rfl := hm rfl
  simp only [wSeqR, Rest_cons, wIf, wB, wOp, wOpF, gtD, ltD, geD, leD, intD0, DL.intD, subD, mulD, fdivD, modD, powD, addD, catD, wIxM, wC, wSet, wSetF, wSetM, wRet, wRetF, wRetN, wVar, wFv, wLst, wTup, wCB, wCBF, wCons, wNil, wRef, wNext, wDrop, wAnd, wOr, wNot, wAndV, wOrV, wNotV, wIfE, wNeg, intC, absD, maxD, minD, lenD, wLenM, atDd, atD, mutOf, setMut, agR, agDs, env0, parm, bodyEnds, bodyEndsF, gN, wAsg, exists_eq_left, exists_eq_left', exists_eq, exists_eq', Option.some.injEq, D.int.injEq, Sl.bor.injEq, Sl.own.injEq, Sl.val.injEq, D.bl.injEq, D.str.injEq, D.lst.injEq, D.tup.injEq, and_true, true_and, exists_const, exists_and_left, exists_and_right, List.getElem?_cons_zero, List.getElem?_cons_succ, List.set_cons_zero, List.set_cons_succ, List.length_cons, List.length_nil, decide_eq_true_eq, if_true, if_false, ite_true, ite_false, List.replicate, List.append_nil, List.nil_append, List.cons_append, List.append_eq, atI0, atI1, atI2, ixN0, ixN1, ixN2, ix30, ix31, ix32, Nat.zero_add, Nat.reduceAdd, Nat.reduceSub, Nat.reduceLeDiff, Option.some.injEq, reduceCtorEq, if_pos, List.replicate_succ, List.replicate_zero, wCall, wCallF, wCon, wConF, wLRg1, agR, agDs, wMkE, wExtend, wAppend, wDic, wDNew, wVals, wValE, Ag.vl.injEq, List.cons.injEq, wFor_eq, wIn, wEnum, wLc_eq, wRange, wYes, gTupD, gConsD, gNilD, List.map_cons, List.map_nil, wipeE, wSplit, wSm0, wChain, wSlF, wPart, wNoP, wWhile_eq, wAug, wPar, wPar3, wPopAt, wRaise, wSetD, wSetK, wLenB, wNinB, wTru, wTruB, wVarB, wFld, wSetA, wMake, wMeth, wTold, wParFF, wParVF, wJoin, wLenSet, isN, isNoneD, wInM, Sl.box.injEq, D.dic.injEq, D.ins.injEq, wDun, wInI, wLenI, wBinI, id, wFstr, wJs, wFmt, wInsert, wSetDI]
  have en : ∀ n : Nat, ((n : Nat) : Int) + 1 = ((n + 1 : Nat) : Int) := fun n => by omega
  rw [List.length_map, atN, List.getElem?_map]
  unfold behind at k
  cases hl : ls[i]? with
  | none =>
    rw [hl] at k
    have : ¬ (i < ls.length) := by rw [List.getElem?_eq_none_iff] at hl; omega
    exact ⟨false, i, by rw [decide_eq_false (by omega)], k⟩
  | some l =>
    rw [hl] at k
    have hi : i < ls.length := (List.getElem?_eq_some_iff.mp hl).1
    have hlt := hls l (List.mem_of_getElem? hl)
    refine ⟨true, i, by rw [decide_eq_true (by omega)], _, rfl, ⟨l, rfl⟩, l, rfl, by decide, sl_big (by have := hlt.le; omega), ?_⟩
    have k' : Ans (match words l with
      | [] => .error (i + 1)
      | w :: ws => if w = x then .ok ws else .error (i + 1)) (cls 1) (fun ws => Qd (ws.map D.str) []) Xd := k
    clear k
    have hp := hlt.parts (y := sp)
    cases hw : Txt.split l sp with
    | nil => exact absurd hw (split_ne _ _)
    | cons w ws =>
      unfold words at k'
      rw [hw] at k' hp
      have hw' : Txt.split l (Str.ofString " ") = w :: ws := hw
      rw [hw', List.map_cons]
      refine ⟨_, atI0, eqD_str2 (hp w List.mem_cons_self).ok hx.ok ⟨_, i, rfl, ?_⟩⟩
      simp only [Bool.false_eq_true, if_false, decide_eq_true_eq]
      by_cases h : w = x
      · rw [if_pos h]
        have k'' : Ans (if w = x then .ok ws else .error (i + 1)) (cls 1) (fun ws => Qd (ws.map D.str) []) Xd := k'
        rw [if_pos h] at k''
        have e := cutD_drop (D.str w :: ws.map D.str) 1
        rw [show ((1 : Nat) : Int) = 1 from rfl] at e
        rw [e]
        exact k''
      · rw [if_neg h]
        have k'' : Ans (if w = x then .ok ws else .error (i + 1)) (cls 1) (fun ws => Qd (ws.map D.str) []) Xd := k'
        rw [if_neg h] at k''
        exact k''
theorem ok_read_lot (B : Blt mg) (T : DefT K mg "read_lot" S_read_lot ["clients", "lines", "at", "first"]) (Dneed : DefE P w K mg base τ false 3 "need" ["holds", "at"] 2 none (cNeed (cls 1))) (Dis_lot : DefE P w K mg base τ false 2 "is_lot" ["clients", "value"] 2 none cIsLot)
    (Dwords_behind : DefF P w K mg base τ false 4 "words_behind" ["lines", "at", "first"] 3 none (cBehind (cls 1))) : DefE P w K mg base τ false 5 "read_lot" ["clients", "lines", "at", "first"] 4 none (cReadLot (cls 1)) := by
  refine def_E (k := 4) T sc_read_lot rfl (by decide) fun f cdv A outer s H E c hr hG => ⟨_, (s_cons (s_set (i := 4) sc_read_lot.nd rfl (by first | exact .inl rfl | exact .inr rfl) (a_ct call_tuple_of calld_tuple rfl B.tuple (by decide +kernel) (aa_cons (a_fv (a_callDF Dwords_behind hr (by omega) calm0 rfl (takes_of rfl rfl rfl rfl) (aa_cons (a_var (pv 1)) (aa_cons (a_var (pv 2)) (aa_cons (a_var (pv 3)) aa_nil))))) aa_nil)))
      (s_cons (s_expr (a_callD Dneed hr (by omega) calm0 rfl (takes_of rfl rfl rfl rfl) (aa_cons (a_callD Dis_lot hr (by omega) calm0 rfl (takes_of rfl rfl rfl rfl) (aa_cons (a_var (pv 0)) (aa_cons (a_var (pv 4)) aa_nil))) (aa_cons (a_var (pv 2)) aa_nil))))
      (s_one (s_ret (a_var (pv 4)))))), ?_⟩
  rintro a ds m Qd Xd hl hm ⟨cl, ls, i, x, rfl, hc, hcl, hls, hx, k⟩
  obtain rfl := hm rfl
  simp only [wSeqR, Rest_cons, wIf, wB, wOp, wOpF, gtD, ltD, geD, leD, intD0, DL.intD, subD, mulD, fdivD, modD, powD, addD, catD, wIxM, wC, wSet, wSetF, wSetM, wRet, wRetF, wRetN, wVar, wFv, wLst, wTup, wCB, wCBF, wCons, wNil, wRef, wNext, wDrop, wAnd, wOr, wNot, wAndV, wOrV, wNotV, wIfE, wNeg, intC, absD, maxD, minD, lenD, wLenM, atDd, atD, mutOf, setMut, agR, agDs, env0, parm, bodyEnds, bodyEndsF, gN, wAsg, exists_eq_left, exists_eq_left', exists_eq, exists_eq', Option.some.injEq, D.int.injEq, Sl.bor.injEq, Sl.own.injEq, Sl.val.injEq, D.bl.injEq, D.str.injEq, D.lst.injEq, D.tup.injEq, and_true, true_and, exists_const, exists_and_left, exists_and_right, List.getElem?_cons_zero, List.getElem?_cons_succ, List.set_cons_zero, List.set_cons_succ, List.length_cons, List.length_nil, decide_eq_true_eq, if_true, if_false, ite_true, ite_false, List.replicate, List.append_nil, List.nil_append, List.cons_append, List.append_eq, atI0, atI1, atI2, ixN0, ixN1, ixN2, ix30, ix31, ix32, Nat.zero_add, Nat.reduceAdd, Nat.reduceSub, Nat.reduceLeDiff, Option.some.injEq, reduceCtorEq, if_pos, List.replicate_succ, List.replicate_zero, wCall, wCallF, wCon, wConF, wLRg1, agR, agDs, wMkE, wExtend, wAppend, wDic, wDNew, wVals, wValE, Ag.vl.injEq, List.cons.injEq, wFor_eq, wIn, wEnum, wLc_eq, wRange, wYes, gTupD, gConsD, gNilD, List.map_cons, List.map_nil, wipeE, wSplit, wSm0, wChain, wSlF, wPart, wNoP, wWhile_eq, wAug, wPar, wPar3, wPopAt, wRaise, wSetD, wSetK, wLenB, wNinB, wTru, wTruB, wVarB, wFld, wSetA, wMake, wMeth, wTold, wParFF, wParVF, wJoin, wLenSet, isN, isNoneD, wInM, Sl.box.injEq, D.dic.injEq, D.ins.injEq, wDun, wInI, wLenI, wBinI, id, wFstr, wJs, wFmt, wInsert, wSetDI, dLot]
  refine ⟨ls, i, x, rfl, hls, hx, ?_⟩
  unfold readLot at k
  cases hb : behind ls i x with
  | error n => rw [hb] at k; exact k
  | ok ws =>
    rw [hb] at k
    have hws : ∀ w ∈ ws, Tx w := behind_tx hls hb
    refine ⟨cl, ws, rfl, hc, hws, hcl, _, i, rfl, ?_⟩
    have k' : Ans (if ws = inSeq cl ws then .ok ws else .error (i + 1)) (cls 1) (fun ws => Qd (dLot ws) []) Xd := k
    by_cases h : ws = inSeq cl ws
    · rw [if_pos h] at k'
      rw [if_pos (decide_eq_true h)]
      exact k'
    · rw [if_neg h] at k'
      rw [if_neg (by simpa using h)]
      exact k'
theorem ok_are_names (B : Blt mg) (hS : SysB base) (T : DefT K mg "are_names" S_are_names ["words"]) (Dis_name : DefE P w K mg base τ false 1 "is_name" ["word"] 1 none cIsName) : DefE P w K mg base τ false 2 "are_names" ["words"] 1 none cAreNames := by
  refine def_E (k := 1) T sc_are_names rfl (by decide) fun f cdv A outer s H E c hr hG => ⟨_, (s_one (s_ret (a_and (a_cb (cr_all rfl) calld_all rfl B.all (by decide +kernel) (aa_cons (a_fv (a_lc (own := [("word", 1)]) rfl sc_are_names.nd (i_in (a_var (pv 0))) (blkOk_by (N := ["words", "word"]) (sc := defScope S_are_names) (by decide +kernel)) (fun _ _ _ _ _ => (pg_name (i := 1) sc_are_names.nd rfl (Or.inl rfl))) (fun _ => (GOkW.v (gokw_name (by decide)))) (fun _ _ _ _ _ _ => ts_nil) (fun _ _ _ _ _ _ => (a_callD Dis_name hr (by omega) calm0 rfl L2.takes0 (aa_cons (a_var (pv 1)) aa_nil))))) aa_nil)) (a_one (a_eq hS hr.units (a_lenSet rfl B.len rfl B.set rfl (a_var (pv 0))) (a_cb call_len calld_len rfl B.len PySem.boot_len (aa_cons (a_var (pv 0)) aa_nil))))))), ?_⟩
  rintro a ds m Qd Xd hl hm ⟨ws, rfl, hws, hn, k⟩
  obtain rfl := hm rfl
  simp only [wSeqR, Rest_cons, wIf, wB, wOp, wOpF, gtD, ltD, geD, leD, intD0, DL.intD, subD, mulD, fdivD, modD, powD, addD, catD, wIxM, wC, wSet, wSetF, wSetM, wRet, wRetF, wRetN, wVar, wFv, wLst, wTup, wCB, wCBF, wCons, wNil, wRef, wNext, wDrop, wAnd, wOr, wNot, wAndV, wOrV, wNotV, wIfE, wNeg, intC, absD, maxD, minD, lenD, wLenM, atDd, atD, mutOf, setMut, agR, agDs, env0, parm, bodyEnds, bodyEndsF, gN, wAsg, exists_eq_left, exists_eq_left', exists_eq, exists_eq', Option.some.injEq, D.int.injEq, Sl.bor.injEq, Sl.own.injEq, Sl.val.injEq, D.bl.injEq, D.str.injEq, D.lst.injEq, D.tup.injEq, and_true, true_and, exists_const, exists_and_left, exists_and_right, List.getElem?_cons_zero, List.getElem?_cons_succ, List.set_cons_zero, List.set_cons_succ, List.length_cons, List.length_nil, decide_eq_true_eq, if_true, if_false, ite_true, ite_false, List.replicate, List.append_nil, List.nil_append, List.cons_append, List.append_eq, atI0, atI1, atI2, ixN0, ixN1, ixN2, ix30, ix31, ix32, Nat.zero_add, Nat.reduceAdd, Nat.reduceSub, Nat.reduceLeDiff, Option.some.injEq, reduceCtorEq, if_pos, List.replicate_succ, List.replicate_zero, wCall, wCallF, wCon, wConF, wLRg1, agR, agDs, wMkE, wExtend, wAppend, wDic, wDNew, wVals, wValE, Ag.vl.injEq, List.cons.injEq, wFor_eq, wIn, wEnum, wLc_eq, wRange, wYes, gTupD, gConsD, gNilD, List.map_cons, List.map_nil, wipeE, wSplit, wSm0, wChain, wSlF, wPart, wNoP, wWhile_eq, wAug, wPar, wPar3, wPopAt, wRaise, wSetD, wSetK, wLenB, wNinB, wTru, wTruB, wVarB, wFld, wSetA, wMake, wMeth, wTold, wParFF, wParVF, wJoin, wLenSet, isN, isNoneD, wInM, Sl.box.injEq, D.dic.injEq, D.ins.injEq, wDun, wInI, wLenI, wBinI, id, wFstr, wJs, wFmt, wInsert, wSetDI]
  refine ⟨rfl, lc_fm ws D.str (fun _ => true) (fun x => .bl (isName x)) rfl (sl_big (by omega)) (fun x hx acc G hz hG => ?_) ?_⟩
  · simp only [wSeqR, Rest_cons, wIf, wB, wOp, wOpF, gtD, ltD, geD, leD, intD0, DL.intD, subD, mulD, fdivD, modD, powD, addD, catD, wIxM, wC, wSet, wSetF, wSetM, wRet, wRetF, wRetN, wVar, wFv, wLst, wTup, wCB, wCBF, wCons, wNil, wRef, wNext, wDrop, wAnd, wOr, wNot, wAndV, wOrV, wNotV, wIfE, wNeg, intC, absD, maxD, minD, lenD, wLenM, atDd, atD, mutOf, setMut, agR, agDs, env0, parm, bodyEnds, bodyEndsF, gN, wAsg, exists_eq_left, exists_eq_left', exists_eq, exists_eq', Option.some.injEq, D.int.injEq, Sl.bor.injEq, Sl.own.injEq, Sl.val.injEq, D.bl.injEq, D.str.injEq, D.lst.injEq, D.tup.injEq, and_true, true_and, exists_const, exists_and_left, exists_and_right, List.getElem?_cons_zero, List.getElem?_cons_succ, List.set_cons_zero, List.set_cons_succ, List.length_cons, List.length_nil, decide_eq_true_eq, if_true, if_false, ite_true, ite_false, List.replicate, List.append_nil, List.nil_append, List.cons_append, List.append_eq, atI0, atI1, atI2, ixN0, ixN1, ixN2, ix30, ix31, ix32, Nat.zero_add, Nat.reduceAdd, Nat.reduceSub, Nat.reduceLeDiff, Option.some.injEq, reduceCtorEq, if_pos, List.replicate_succ, List.replicate_zero, wCall, wCallF, wCon, wConF, wLRg1, agR, agDs, wMkE, wExtend, wAppend, wDic, wDNew, wVals, wValE, Ag.vl.injEq, List.cons.injEq, wFor_eq, wIn, wEnum, wLc_eq, wRange, wYes, gTupD, gConsD, gNilD, List.map_cons, List.map_nil, wipeE, wSplit, wSm0, wChain, wSlF, wPart, wNoP, wWhile_eq, wAug, wPar, wPar3, wPopAt, wRaise, wSetD, wSetK, wLenB, wNinB, wTru, wTruB, wVarB, wFld, wSetA, wMake, wMeth, wTold, wParFF, wParVF, wJoin, wLenSet, isN, isNoneD, wInM, Sl.box.injEq, D.dic.injEq, D.ins.injEq, wDun, wInI, wLenI, wBinI, id, wFstr, wJs, wFmt, wInsert, wSetDI]
    exact ⟨x, rfl, by have := (hws x hx).le; omega, hz, by simpa using hG⟩
  · simp only [wSeqR, Rest_cons, wIf, wB, wOp, wOpF, gtD, ltD, geD, leD, intD0, DL.intD, subD, mulD, fdivD, modD, powD, addD, catD, wIxM, wC, wSet, wSetF, wSetM, wRet, wRetF, wRetN, wVar, wFv, wLst, wTup, wCB, wCBF, wCons, wNil, wRef, wNext, wDrop, wAnd, wOr, wNot, wAndV, wOrV, wNotV, wIfE, wNeg, intC, absD, maxD, minD, lenD, wLenM, atDd, atD, mutOf, setMut, agR, agDs, env0, parm, bodyEnds, bodyEndsF, gN, wAsg, exists_eq_left, exists_eq_left', exists_eq, exists_eq', Option.some.injEq, D.int.injEq, Sl.bor.injEq, Sl.own.injEq, Sl.val.injEq, D.bl.injEq, D.str.injEq, D.lst.injEq, D.tup.injEq, and_true, true_and, exists_const, exists_and_left, exists_and_right, List.getElem?_cons_zero, List.getElem?_cons_succ, List.set_cons_zero, List.set_cons_succ, List.length_cons, List.length_nil, decide_eq_true_eq, if_true, if_false, ite_true, ite_false, List.replicate, List.append_nil, List.nil_append, List.cons_append, List.append_eq, atI0, atI1, atI2, ixN0, ixN1, ixN2, ix30, ix31, ix32, Nat.zero_add, Nat.reduceAdd, Nat.reduceSub, Nat.reduceLeDiff, Option.some.injEq, reduceCtorEq, if_pos, List.replicate_succ, List.replicate_zero, wCall, wCallF, wCon, wConF, wLRg1, agR, agDs, wMkE, wExtend, wAppend, wDic, wDNew, wVals, wValE, Ag.vl.injEq, List.cons.injEq, wFor_eq, wIn, wEnum, wLc_eq, wRange, wYes, gTupD, gConsD, gNilD, List.map_cons, List.map_nil, wipeE, wSplit, wSm0, wChain, wSlF, wPart, wNoP, wWhile_eq, wAug, wPar, wPar3, wPopAt, wRaise, wSetD, wSetK, wLenB, wNinB, wTru, wTruB, wVarB, wFld, wSetA, wMake, wMeth, wTold, wParFF, wParVF, wJoin, wLenSet, isN, isNoneD, wInM, Sl.box.injEq, D.dic.injEq, D.ins.injEq, wDun, wInI, wLenI, wBinI, id, wFstr, wJs, wFmt, wInsert, wSetDI, restE, List.getD, Option.getD]
    rw [List.filter_eq_self.mpr (fun _ _ => rfl)]
    refine ⟨ws.map isName, by rw [List.map_map]; rfl, ?_⟩
    unfold areNames at k
    refine ⟨_, rfl, ?_⟩
    rw [show (ws.map isName).all (fun b => b) = ws.all isName by rw [List.all_map]; rfl]
    cases h : ws.all isName with
    | false =>
      rw [h, Bool.false_and] at k
      exact k
    | true =>
      rw [h, Bool.true_and] at k
      rw [if_pos rfl]
      refine ⟨ws, rfl, hn, eqD_int ?_⟩
      rw [List.length_map]
      have e : (((dcount ws : Nat) : Int) == ((ws.length : Nat) : Int)) = decide (dcount ws = ws.length) := by
        by_cases h2 : dcount ws = ws.length
        · rw [h2]; simp
        · rw [decide_eq_false h2]; simp; omega
      rw [e]
      exact k
theorem ok_read_clients (B : Blt mg) (T : DefT K mg "read_clients" S_read_clients ["lines"]) (Dneed : DefE P w K mg base τ false 3 "need" ["holds", "at"] 2 none (cNeed (cls 1))) (Dare_names : DefE P w K mg base τ false 2 "are_names" ["words"] 1 none cAreNames)
    (Dwords_behind : DefF P w K mg base τ false 4 "words_behind" ["lines", "at", "first"] 3 none (cBehind (cls 1))) : DefE P w K mg base τ false 5 "read_clients" ["lines"] 1 none (cReadClients (cls 1)) := by
  refine def_E (k := 4) T sc_read_clients rfl (by decide) fun f cdv A outer s H E c hr hG => ⟨_, (s_cons (s_setF (i := 1) sc_read_clients.nd rfl (by first | exact .inl rfl | exact .inr rfl) (a_callDF Dwords_behind hr (by omega) calm0 rfl (takes_of rfl rfl rfl rfl) (aa_cons (a_var (pv 0)) (aa_cons a_int (aa_cons a_str aa_nil)))))
      (s_cons (s_expr (a_callD Dneed hr (by omega) calm0 rfl (takes_of rfl rfl rfl rfl) (aa_cons (a_and (a_chain op_le opLe op_le opLe a_int (a_cb call_len calld_len rfl B.len PySem.boot_len (aa_cons (a_var (pv 1)) aa_nil)) a_int) (a_one (a_callD Dare_names hr (by omega) calm0 rfl (takes_of rfl rfl rfl rfl) (aa_cons (a_var (pv 1)) aa_nil)))) (aa_cons a_int aa_nil))))
      (s_one (s_ret (a_ct call_tuple_of calld_tuple rfl B.tuple (by decide +kernel) (aa_cons (a_var (pv 1)) aa_nil)))))), ?_⟩
  rintro a ds m Qd Xd hl hm ⟨ls, rfl, hls, k⟩
  obtain rfl := hm rfl
  simp only [wSeqR, Rest_cons, wIf, wB, wOp, wOpF, gtD, ltD, geD, leD, intD0, DL.intD, subD, mulD, fdivD, modD, powD, addD, catD, wIxM, wC, wSet, wSetF, wSetM, wRet, wRetF, wRetN, wVar, wFv, wLst, wTup, wCB, wCBF, wCons, wNil, wRef, wNext, wDrop, wAnd, wOr, wNot, wAndV, wOrV, wNotV, wIfE, wNeg, intC, absD, maxD, minD, lenD, wLenM, atDd, atD, mutOf, setMut, agR, agDs, env0, parm, bodyEnds, bodyEndsF, gN, wAsg, exists_eq_left, exists_eq_left', exists_eq, exists_eq', Option.some.injEq, D.int.injEq, Sl.bor.injEq, Sl.own.injEq, Sl.val.injEq, D.bl.injEq, D.str.injEq, D.lst.injEq, D.tup.injEq, and_true, true_and, exists_const, exists_and_left, exists_and_right, List.getElem?_cons_zero, List.getElem?_cons_succ, List.set_cons_zero, List.set_cons_succ, List.length_cons, List.length_nil, decide_eq_true_eq, if_true, if_false, ite_true, ite_false, List.replicate, List.append_nil, List.nil_append, List.cons_append, List.append_eq, atI0, atI1, atI2, ixN0, ixN1, ixN2, ix30, ix31, ix32, Nat.zero_add, Nat.reduceAdd, Nat.reduceSub, Nat.reduceLeDiff, Option.some.injEq, reduceCtorEq, if_pos, List.replicate_succ, List.replicate_zero, wCall, wCallF, wCon, wConF, wLRg1, agR, agDs, wMkE, wExtend, wAppend, wDic, wDNew, wVals, wValE, Ag.vl.injEq, List.cons.injEq, wFor_eq, wIn, wEnum, wLc_eq, wRange, wYes, gTupD, gConsD, gNilD, List.map_cons, List.map_nil, wipeE, wSplit, wSm0, wChain, wSlF, wPart, wNoP, wWhile_eq, wAug, wPar, wPar3, wPopAt, wRaise, wSetD, wSetK, wLenB, wNinB, wTru, wTruB, wVarB, wFld, wSetA, wMake, wMeth, wTold, wParFF, wParVF, wJoin, wLenSet, isN, isNoneD, wInM, Sl.box.injEq, D.dic.injEq, D.ins.injEq, wDun, wInI, wLenI, wBinI, id, wFstr, wJs, wFmt, wInsert, wSetDI]
  refine ⟨ls, 0, _, rfl, hls, ⟨by decide +kernel, by decide +kernel⟩, ?_⟩
  unfold readClients at k
  have k0 : Ans (match behind ls 0 (Str.ofString "clients") with
    | .error n => .error n
    | .ok ns => if 2 ≤ ns.length ∧ ns.length ≤ 8 ∧ areNames ns = true then .ok ns else .error 1) (cls 1) (fun ws => Qd (dLot ws) []) Xd := k
  clear k
  cases hb : behind ls 0 (Str.ofString "clients") with
  | error n => rw [hb] at k0; exact k0
  | ok ns =>
    rw [hb] at k0
    have hws : ∀ w ∈ ns, Tx w := behind_tx hls hb
    have k' : Ans (if 2 ≤ ns.length ∧ ns.length ≤ 8 ∧ areNames ns = true then .ok ns else .error 1) (cls 1) (fun ws => Qd (dLot ws) []) Xd := k0
    simp only [Ans]
    rw [List.length_map]
    by_cases h1 : 2 ≤ ns.length
    · rw [if_pos (by omega)]
      by_cases h2 : ns.length ≤ 8
      · rw [if_pos (by omega)]
        refine ⟨ns, rfl, hws, by omega, _, 0, rfl, ?_⟩
        by_cases h3 : areNames ns = true
        · rw [if_pos ⟨h1, h2, h3⟩] at k'
          rw [if_pos h3]
          exact k'
        · rw [if_neg (fun z => h3 z.2.2)] at k'
          rw [if_neg h3]
          exact k'
      · rw [if_neg (by omega)]
        rw [if_neg (fun z => h2 z.2.1)] at k'
        exact ⟨false, 0, rfl, k'⟩
    · rw [if_neg (by omega)]
      rw [if_neg (fun z => h1 z.1)] at k'
      exact ⟨false, 0, rfl, k'⟩
def WRiv (cl ls : List Str) (BB : Addr) (Qd : D → List D → Prop) (Xd : Addr → D → Prop) (m : Nat) (env' : DL.Env) : Prop := ∃ (i : Nat) (ps : List PStr) (s4 s5 : Sl), m = ls.length - i ∧ 1 ≤ i ∧ ps.length ≤ i ∧ i ≤ 100001 ∧ (∀ p ∈ ps, PyData.strOk p.1 = true ∧ PyData.strOk p.2 = true) ∧ env' = [.val (.tup (cl.map D.str)), .val (.lst (ls.map D.str)), .own (ps.map D2), .val (.int i), s4, s5] ∧
  Ans (readRivals cl (ls.drop i) i ps) BB (fun ps => Qd (.lst (ps.map D2)) []) Xd
theorem ok_read_rivals (B : Blt mg) (hS : SysB base) (T : DefT K mg "read_rivals" S_read_rivals ["clients", "lines"]) (Dneed : DefE P w K mg base τ false 3 "need" ["holds", "at"] 2 none (cNeed (cls 1))) (Din_sequence : DefE P w K mg base τ false 1 "in_sequence" ["clients", "members"] 2 none cInSeq)
    (Dwords_behind : DefF P w K mg base τ false 4 "words_behind" ["lines", "at", "first"] 3 none (cBehind (cls 1))) : DefE P w K mg base τ false 5 "read_rivals" ["clients", "lines"] 2 none (cReadRivals (cls 1)) := by
  refine def_E (k := 4) T sc_read_rivals rfl (by decide) fun f cdv A outer s H E c hr hG => ⟨_, (s_cons (s_setF (i := 2) sc_read_rivals.nd rfl (by first | exact .inl rfl | exact .inr rfl) (a_lst aa_nil))
      (s_cons (s_set (i := 3) sc_read_rivals.nd rfl (by first | exact .inl rfl | exact .inr rfl) a_int)
      (s_cons (s_while (passes_of rfl) (t_w (w_and (t_lt (a_var (pv 3)) (a_cb call_len calld_len rfl B.len PySem.boot_len (aa_cons (a_var (pv 1)) aa_nil))) (w_and1 (t_eq hS hr.units (a_ix (units1 hr) (a_fv (a_split (a_ix (units1 hr) (a_var (pv 1)) (a_var (pv 3)) (fun _ _ => rfl)) a_str)) a_int (fun _ _ => rfl)) a_str))))
      (s_cons (s_setF (i := 4) sc_read_rivals.nd rfl (by first | exact .inl rfl | exact .inr rfl) (a_callDF Dwords_behind hr (by omega) calm0 rfl (takes_of rfl rfl rfl rfl) (aa_cons (a_var (pv 1)) (aa_cons (a_var (pv 3)) (aa_cons a_str aa_nil)))))
      (s_cons (s_set (i := 5) sc_read_rivals.nd rfl (by first | exact .inl rfl | exact .inr rfl) (a_callD Din_sequence hr (by omega) calm0 rfl (takes_of rfl rfl rfl rfl) (aa_cons (a_var (pv 0)) (aa_cons (a_var (pv 4)) aa_nil))))
      (s_cons (s_expr (a_callD Dneed hr (by omega) calm0 rfl (takes_of rfl rfl rfl rfl) (aa_cons (a_and (a_eq hS hr.units (a_cb call_len calld_len rfl B.len PySem.boot_len (aa_cons (a_var (pv 4)) aa_nil)) a_int) (a_and (a_eq hS hr.units (a_cb call_len calld_len rfl B.len PySem.boot_len (aa_cons (a_var (pv 5)) aa_nil)) a_int) (a_one (a_inM (opr_of (opi_in (neg := true) hS (units65 hr))) (a_var (pv 5)) (pv 2))))) (aa_cons (a_var (pv 3)) aa_nil))))
      (s_cons (s_expr (a_append (pv 2) (a_var (pv 5))))
      (s_one (s_aug (i := 3) ip_add sc_read_rivals.nd rfl (by first | exact .inl rfl | exact .inr rfl) a_int)))))))
      (s_one (s_ret (a_var (pv 2))))))), ?_⟩
  rintro a ds m Qd Xd hl hm ⟨cl, ls, rfl, hc, hcl, hls, hln, k⟩
  obtain rfl := hm rfl
  simp only [wSeqR, Rest_cons, wIf, wB, wOp, wOpF, gtD, ltD, geD, leD, intD0, DL.intD, subD, mulD, fdivD, modD, powD, addD, catD, wIxM, wC, wSet, wSetF, wSetM, wRet, wRetF, wRetN, wVar, wFv, wLst, wTup, wCB, wCBF, wCons, wNil, wRef, wNext, wDrop, wAnd, wOr, wNot, wAndV, wOrV, wNotV, wIfE, wNeg, intC, absD, maxD, minD, lenD, wLenM, atDd, atD, mutOf, setMut, agR, agDs, env0, parm, bodyEnds, bodyEndsF, gN, wAsg, exists_eq_left, exists_eq_left', exists_eq, exists_eq', Option.some.injEq, D.int.injEq, Sl.bor.injEq, Sl.own.injEq, Sl.val.injEq, D.bl.injEq, D.str.injEq, D.lst.injEq, D.tup.injEq, and_true, true_and, exists_const, exists_and_left, exists_and_right, List.getElem?_cons_zero, List.getElem?_cons_succ, List.set_cons_zero, List.set_cons_succ, List.length_cons, List.length_nil, decide_eq_true_eq, if_true, if_false, ite_true, ite_false, List.replicate, List.append_nil, List.nil_append, List.cons_append, List.append_eq, atI0, atI1, atI2, ixN0, ixN1, ixN2, ix30, ix31, ix32, Nat.zero_add, Nat.reduceAdd, Nat.reduceSub, Nat.reduceLeDiff, Option.some.injEq, reduceCtorEq, if_pos, List.replicate_succ, List.replicate_zero, wCall, wCallF, wCon, wConF, wLRg1, agR, agDs, wMkE, wExtend, wAppend, wDic, wDNew, wVals, wValE, Ag.vl.injEq, List.cons.injEq, wFor_eq, wIn, wEnum, wLc_eq, wRange, wYes, gTupD, gConsD, gNilD, List.map_cons, List.map_nil, wipeE, wSplit, wSm0, wChain, wSlF, wPart, wNoP, wWhile_eq, wAug, wPar, wPar3, wPopAt, wRaise, wSetD, wSetK, wLenB, wNinB, wTru, wTruB, wVarB, wFld, wSetA, wMake, wMeth, wTold, wParFF, wParVF, wJoin, wLenSet, isN, isNoneD, wInM, Sl.box.injEq, D.dic.injEq, D.ins.injEq, wDun, wInI, wLenI, wBinI, id, wFstr, wJs, wFmt, wInsert, wSetDI, dLot]
  refine ⟨by decide, WRiv cl ls (cls 1) Qd Xd, ⟨_, 1, [], .un, .un, rfl, by omega, by simp, by omega, by simp, rfl, k⟩, ?_⟩
  rintro m env' ⟨i, ps, s4, s5, rfl, hi1, hpl, hi2, hps, rfl, k⟩
  simp only [wSeqR, Rest_cons, wIf, wB, wOp, wOpF, gtD, ltD, geD, leD, intD0, DL.intD, subD, mulD, fdivD, modD, powD, addD, catD, wIxM, wC, wSet, wSetF, wSetM, wRet, wRetF, wRetN, wVar, wFv, wLst, wTup, wCB, wCBF, wCons, wNil, wRef, wNext, wDrop, wAnd, wOr, wNot, wAndV, wOrV, wNotV, wIfE, wNeg, intC, absD, maxD, minD, lenD, wLenM, atDd, atD, mutOf, setMut, agR, agDs, env0, parm, bodyEnds, bodyEndsF, gN, wAsg, exists_eq_left, exists_eq_left', exists_eq, exists_eq', Option.some.injEq, D.int.injEq, Sl.bor.injEq, Sl.own.injEq, Sl.val.injEq, D.bl.injEq, D.str.injEq, D.lst.injEq, D.tup.injEq, and_true, true_and, exists_const, exists_and_left, exists_and_right, List.getElem?_cons_zero, List.getElem?_cons_succ, List.set_cons_zero, List.set_cons_succ, List.length_cons, List.length_nil, decide_eq_true_eq, if_true, if_false, ite_true, ite_false, List.replicate, List.append_nil, List.nil_append, List.cons_append, List.append_eq, atI0, atI1, atI2, ixN0, ixN1, ixN2, ix30, ix31, ix32, Nat.zero_add, Nat.reduceAdd, Nat.reduceSub, Nat.reduceLeDiff, Option.some.injEq, reduceCtorEq, if_pos, List.replicate_succ, List.replicate_zero, wCall, wCallF, wCon, wConF, wLRg1, agR, agDs, wMkE, wExtend, wAppend, wDic, wDNew, wVals, wValE, Ag.vl.injEq, List.cons.injEq, wFor_eq, wIn, wEnum, wLc_eq, wRange, wYes, gTupD, gConsD, gNilD, List.map_cons, List.map_nil, wipeE, wSplit, wSm0, wChain, wSlF, wPart, wNoP, wWhile_eq, wAug, wPar, wPar3, wPopAt, wRaise, wSetD, wSetK, wLenB, wNinB, wTru, wTruB, wVarB, wFld, wSetA, wMake, wMeth, wTold, wParFF, wParVF, wJoin, wLenSet, isN, isNoneD, wInM, Sl.box.injEq, D.dic.injEq, D.ins.injEq, wDun, wInI, wLenI, wBinI, id, wFstr, wJs, wFmt, wInsert, wSetDI, dLot]
  by_cases hi : i < ls.length
  · rw [if_pos (by rw [List.length_map]; omega)]
    have hl : ls[i]? = some ls[i] := List.getElem?_eq_getElem hi
    generalize ls[i] = l at hl
    have hd : ls.drop i = l :: ls.drop (i + 1) := by
      rw [List.drop_eq_getElem_cons hi]
      rw [List.getElem?_eq_getElem hi] at hl
      rw [Option.some.inj hl]
    rw [hd] at k
    have hlt := hls l (List.mem_of_getElem? hl)
    rw [atN, List.getElem?_map, hl]
    refine ⟨_, rfl, ⟨l, rfl⟩, l, rfl, by decide, sl_big (by have := hlt.le; omega), ?_⟩
    have hp := hlt.parts (y := sp)
    cases hw : Txt.split l sp with
    | nil => exact absurd hw (split_ne _ _)
    | cons w ws =>
      rw [hw] at hp
      have hww : words l = w :: ws := hw
      rw [show Txt.split l (Str.ofString " ") = w :: ws from hw, List.map_cons]
      refine ⟨_, atI0, eqD_str2 (hp w List.mem_cons_self).ok (by decide +kernel) ⟨_, rfl, ?_⟩⟩
      simp only [Bool.false_eq_true, if_false, decide_eq_true_eq]
      by_cases h : w = Str.ofString "rivals"
      · rw [if_pos h]
        subst h
        have hb : behind ls i (Str.ofString "rivals") = .ok ws := by
          unfold behind
          rw [hl]
          simp only [hww, if_true]
        have hwt : ∀ w ∈ ws, Tx w := behind_tx hls hb
        refine ⟨ls, i, _, rfl, hls, ⟨by decide +kernel, by decide +kernel⟩, ?_⟩
        rw [hb]
        refine ⟨cl, ws, _, rfl, .inl rfl, hc, hwt, hcl, ?_⟩
        simp only [dLot]
        have bad : (∀ x y a b, ws = [x, y] → inSeq cl ws = [a, b] → (a, b) ∈ ps) → Xd (cls 1) (.int ((i + 1 : Nat) : Int)) := fun hb => by
          rw [rr_bad hww hb] at k
          exact k
        refine eqD_int ⟨_, rfl, ?_⟩
        rw [List.length_map]
        by_cases h2 : ws.length = 2
        · rw [if_pos (by simp [h2])]
          refine eqD_int ⟨_, rfl, ?_⟩
          rw [List.length_map]
          by_cases h3 : (inSeq cl ws).length = 2
          · rw [if_pos (by simp [h3])]
            obtain ⟨x, y, rfl⟩ := two_of h2
            obtain ⟨u, v, huv⟩ := two_of h3
            have hu : ∀ z ∈ inSeq cl [x, y], PyData.strOk z = true := fun z hz => (hc z (List.mem_filter.mp hz).1).ok
            rw [huv] at hu ⊢
            have hok := hu u List.mem_cons_self
            have hov := hu v (List.mem_cons_of_mem _ List.mem_cons_self)
            refine inP_pairs (c := (u, v)) (.inl rfl) ⟨hok, hov⟩ hps ⟨⟨_, rfl⟩, _, i, rfl, ?_⟩
            simp only [if_true]
            by_cases h4 : (u, v) ∈ ps
            · rw [if_neg (by simp [h4])]
              exact bad fun _ _ a b _ e => by rw [huv] at e; cases e; exact h4
            · rw [if_pos (by simp [h4])]
              rw [rr_one hww huv h4] at k
              refine ⟨by rw [List.length_map]; exact Nat.lt_of_lt_of_le (show ps.length < 1000000 by omega) (by rw [sizeLine_eq]; omega), ls.length - (i + 1), by omega, i + 1, ps ++ [(u, v)], _, _, rfl, by omega, by simp; omega, by omega, fun p hp => ?_, by rw [List.map_append]; rfl, k⟩
              rcases List.mem_append.mp hp with hp | hp
              · exact hps p hp
              · have e : p = (u, v) := by simpa using hp
                subst e; exact ⟨hok, hov⟩
          · rw [if_neg (by simp; omega)]
            exact ⟨false, i, rfl, bad fun _ _ a b _ e => absurd (by rw [e]; rfl) h3⟩
        · rw [if_neg (by simp; omega)]
          exact ⟨false, i, rfl, bad fun x y _ _ e _ => absurd (by rw [e]; rfl) h2⟩
      · rw [if_neg h]
        rw [rr_no hww h] at k
        exact k
  · rw [if_neg (by rw [List.length_map]; omega)]
    rw [List.drop_of_length_le (by omega)] at k
    exact k
def WKin (cl ls : List Str) (BB : Addr) (Qd : D → List D → Prop) (Xd : Addr → D → Prop) (m : Nat) (env' : DL.Env) : Prop := ∃ (i : Nat) (ks : List Right) (s2 s5 s6 s7 : Sl), ls.length + 1 ≤ m + i ∧ (ks = [] → m = ls.length + 1) ∧ ks.length ≤ 4 ∧ (ks.map (·.1)).Nodup ∧ env' = [.val (.tup (cl.map D.str)), .val (.lst (ls.map D.str)), s2, .box none (dRights ks), .val (.int i), s5, s6, s7] ∧
  Ans (readKinds cl ls m i ks) BB (fun ks => Qd (dRights ks) []) Xd
theorem ok_read_kinds (B : Blt mg) (hS : SysB base) (T : DefT K mg "read_kinds" S_read_kinds ["clients", "lines", "start"]) (Dneed : DefE P w K mg base τ false 3 "need" ["holds", "at"] 2 none (cNeed (cls 1))) (Dis_name : DefE P w K mg base τ false 1 "is_name" ["word"] 1 none cIsName) (Dread_lot : DefE P w K mg base τ false 5 "read_lot" ["clients", "lines", "at", "first"] 4 none (cReadLot (cls 1)))
    (Dwords_behind : DefF P w K mg base τ false 4 "words_behind" ["lines", "at", "first"] 3 none (cBehind (cls 1))) : DefE P w K mg base τ false 6 "read_kinds" ["clients", "lines", "start"] 3 none (cReadKinds (cls 1)) := by
  refine def_E (k := 5) T sc_read_kinds rfl (by decide) fun f cdv A outer s H E c hr hG => ⟨_, (s_cons (s_setD (i := 3) sc_read_kinds.nd rfl (by first | exact .inl rfl | exact .inr rfl))
      (s_cons (s_set (i := 4) sc_read_kinds.nd rfl (by first | exact .inl rfl | exact .inr rfl) (a_var (pv 2)))
      (s_cons (s_while (passes_of rfl) (t_w (w_or (t_lt (a_var (pv 4)) (a_cb call_len calld_len rfl B.len PySem.boot_len (aa_cons (a_var (pv 1)) aa_nil))) (w_or1 (t_not (t_truB (pv 3))))))
      (s_cons (s_setF (i := 5) sc_read_kinds.nd rfl (by first | exact .inl rfl | exact .inr rfl) (a_callDF Dwords_behind hr (by omega) calm0 rfl (takes_of rfl rfl rfl rfl) (aa_cons (a_var (pv 1)) (aa_cons (a_var (pv 4)) (aa_cons a_str aa_nil)))))
      (s_cons (s_expr (a_callD Dneed hr (by omega) calm0 rfl (takes_of rfl rfl rfl rfl) (aa_cons (a_and (a_lt (a_lenB rfl B.len (pv 3)) a_int) (a_and (a_eq hS hr.units (a_cb call_len calld_len rfl B.len PySem.boot_len (aa_cons (a_var (pv 5)) aa_nil)) a_int) (a_and (a_callD Dis_name hr (by omega) calm0 rfl (takes_of rfl rfl rfl rfl) (aa_cons (a_ix (units1 hr) (a_var (pv 5)) a_int (fun _ _ => rfl)) aa_nil)) (a_one (a_ninB (units1 hr) (pv 3) (a_ix (units1 hr) (a_var (pv 5)) a_int (fun _ _ => rfl))))))) (aa_cons (a_var (pv 4)) aa_nil))))
      (s_cons (s_set (i := 6) sc_read_kinds.nd rfl (by first | exact .inl rfl | exact .inr rfl) (a_callD Dread_lot hr (by omega) calm0 rfl (takes_of rfl rfl rfl rfl) (aa_cons (a_var (pv 0)) (aa_cons (a_var (pv 1)) (aa_cons (a_add (a_var (pv 4)) a_int) (aa_cons a_str aa_nil))))))
      (s_cons (s_set (i := 7) sc_read_kinds.nd rfl (by first | exact .inl rfl | exact .inr rfl) (a_callD Dread_lot hr (by omega) calm0 rfl (takes_of rfl rfl rfl rfl) (aa_cons (a_var (pv 0)) (aa_cons (a_var (pv 1)) (aa_cons (a_add (a_var (pv 4)) a_int) (aa_cons a_str aa_nil))))))
      (s_cons (s_setK (units1 hr) (pv 3) (a_ix (units1 hr) (a_var (pv 5)) a_int (fun _ _ => rfl)) (a_dic (pps_one (key := .inr "look") pe_str (fun _ => (a_var (pv 6))) (pps_one (key := .inr "write") pe_str (fun _ => (a_var (pv 7))) pps_end)) rfl rfl (by simp) (by decide)) (fun _ _ h1 h2 => ps_asg h1 (pg_sub (pv 3) h2 (set_dict (units1 hr)))))
      (s_one (s_aug (i := 4) ip_add sc_read_kinds.nd rfl (by first | exact .inl rfl | exact .inr rfl) a_int))))))))
      (s_one (s_ret (a_varB (pv 3))))))), ?_⟩
  rintro a ds m Qd Xd hl hm ⟨cl, ls, i, rfl, hc, hcl, hls, k⟩
  obtain rfl := hm rfl
  simp only [wSeqR, Rest_cons, wIf, wB, wOp, wOpF, gtD, ltD, geD, leD, intD0, DL.intD, subD, mulD, fdivD, modD, powD, addD, catD, wIxM, wC, wSet, wSetF, wSetM, wRet, wRetF, wRetN, wVar, wFv, wLst, wTup, wCB, wCBF, wCons, wNil, wRef, wNext, wDrop, wAnd, wOr, wNot, wAndV, wOrV, wNotV, wIfE, wNeg, intC, absD, maxD, minD, lenD, wLenM, atDd, atD, mutOf, setMut, agR, agDs, env0, parm, bodyEnds, bodyEndsF, gN, wAsg, exists_eq_left, exists_eq_left', exists_eq, exists_eq', Option.some.injEq, D.int.injEq, Sl.bor.injEq, Sl.own.injEq, Sl.val.injEq, D.bl.injEq, D.str.injEq, D.lst.injEq, D.tup.injEq, and_true, true_and, exists_const, exists_and_left, exists_and_right, List.getElem?_cons_zero, List.getElem?_cons_succ, List.set_cons_zero, List.set_cons_succ, List.length_cons, List.length_nil, decide_eq_true_eq, if_true, if_false, ite_true, ite_false, List.replicate, List.append_nil, List.nil_append, List.cons_append, List.append_eq, atI0, atI1, atI2, ixN0, ixN1, ixN2, ix30, ix31, ix32, Nat.zero_add, Nat.reduceAdd, Nat.reduceSub, Nat.reduceLeDiff, Option.some.injEq, reduceCtorEq, if_pos, List.replicate_succ, List.replicate_zero, wCall, wCallF, wCon, wConF, wLRg1, agR, agDs, wMkE, wExtend, wAppend, wDic, wDNew, wVals, wValE, Ag.vl.injEq, List.cons.injEq, wFor_eq, wIn, wEnum, wLc_eq, wRange, wYes, gTupD, gConsD, gNilD, List.map_cons, List.map_nil, wipeE, wSplit, wSm0, wChain, wSlF, wPart, wNoP, wWhile_eq, wAug, wPar, wPar3, wPopAt, wRaise, wSetD, wSetK, wLenB, wNinB, wTru, wTruB, wVarB, wFld, wSetA, wMake, wMeth, wTold, wParFF, wParVF, wJoin, wLenSet, isN, isNoneD, wInM, Sl.box.injEq, D.dic.injEq, D.ins.injEq, wDun, wInI, wLenI, wBinI, id, wFstr, wJs, wFmt, wInsert, wSetDI, dLot]
  refine ⟨WKin cl ls (cls 1) Qd Xd, ⟨_, i, [], _, _, _, _, by omega, fun _ => rfl, by simp, by simp, rfl, k⟩, ?_⟩
  rintro m env' ⟨i, ks, s2, s5, s6, s7, hm1, hm2, hk4, hnd, rfl, k⟩
  simp only [wSeqR, Rest_cons, wIf, wB, wOp, wOpF, gtD, ltD, geD, leD, intD0, DL.intD, subD, mulD, fdivD, modD, powD, addD, catD, wIxM, wC, wSet, wSetF, wSetM, wRet, wRetF, wRetN, wVar, wFv, wLst, wTup, wCB, wCBF, wCons, wNil, wRef, wNext, wDrop, wAnd, wOr, wNot, wAndV, wOrV, wNotV, wIfE, wNeg, intC, absD, maxD, minD, lenD, wLenM, atDd, atD, mutOf, setMut, agR, agDs, env0, parm, bodyEnds, bodyEndsF, gN, wAsg, exists_eq_left, exists_eq_left', exists_eq, exists_eq', Option.some.injEq, D.int.injEq, Sl.bor.injEq, Sl.own.injEq, Sl.val.injEq, D.bl.injEq, D.str.injEq, D.lst.injEq, D.tup.injEq, and_true, true_and, exists_const, exists_and_left, exists_and_right, List.getElem?_cons_zero, List.getElem?_cons_succ, List.set_cons_zero, List.set_cons_succ, List.length_cons, List.length_nil, decide_eq_true_eq, if_true, if_false, ite_true, ite_false, List.replicate, List.append_nil, List.nil_append, List.cons_append, List.append_eq, atI0, atI1, atI2, ixN0, ixN1, ixN2, ix30, ix31, ix32, Nat.zero_add, Nat.reduceAdd, Nat.reduceSub, Nat.reduceLeDiff, Option.some.injEq, reduceCtorEq, if_pos, List.replicate_succ, List.replicate_zero, wCall, wCallF, wCon, wConF, wLRg1, agR, agDs, wMkE, wExtend, wAppend, wDic, wDNew, wVals, wValE, Ag.vl.injEq, List.cons.injEq, wFor_eq, wIn, wEnum, wLc_eq, wRange, wYes, gTupD, gConsD, gNilD, List.map_cons, List.map_nil, wipeE, wSplit, wSm0, wChain, wSlF, wPart, wNoP, wWhile_eq, wAug, wPar, wPar3, wPopAt, wRaise, wSetD, wSetK, wLenB, wNinB, wTru, wTruB, wVarB, wFld, wSetA, wMake, wMeth, wTold, wParFF, wParVF, wJoin, wLenSet, isN, isNoneD, wInM, Sl.box.injEq, D.dic.injEq, D.ins.injEq, wDun, wInI, wLenI, wBinI, id, wFstr, wJs, wFmt, wInsert, wSetDI, dLot, dRights, and_assoc]
  have hlen : (ks.map fun k => (Sum.inr k.1 : Key)).length = ks.length := List.length_map ..
  have hemp : (ks.map fun k => (Sum.inr k.1 : Key)).isEmpty = ks.isEmpty := by cases ks <;> rfl
  rw [hlen, hemp, List.length_map]
  by_cases hcond : i < ls.length ∨ ks = []
  · obtain ⟨fu, rfl⟩ : ∃ fu, m = fu + 1 := by
      rcases hcond with h | h
      · exact ⟨m - 1, by omega⟩
      · exact ⟨ls.length, hm2 h⟩
    rw [readKinds, if_pos hcond] at k
    refine orB (hcond.imp (fun h => by omega) fun h => by simp [h]) ?_
    refine ⟨ls, i, _, rfl, hls, ⟨by decide +kernel, by decide +kernel⟩, ?_⟩
    rw [show (Str.ofString "kind" : Str) = "kind" from rfl]
    cases hb : behind ls i "kind" with
    | error n => rw [hb] at k; exact k
    | ok ns =>
      rw [hb] at k
      have hwt : ∀ w ∈ ns, Tx w := behind_tx hls hb
      simp only [Ans]
      have e1 : ((i + 1 : Nat) : Int) = (i : Int) + 1 := by omega
      have e2 : ((i + 2 : Nat) : Int) = (i : Int) + 2 := by omega
      by_cases h4 : ks.length < 4
      · rw [if_pos (by omega)]
        refine eqD_int ⟨_, rfl, ?_⟩
        rw [List.length_map]
        by_cases hn : ns.length = 1
        · obtain ⟨x, rfl⟩ := List.length_eq_one_iff.mp hn
          have k : Ans (if ks.length < 4 ∧ isName x = true ∧ x ∉ ks.map (·.1) then
              match readLot cl ls (i + 1) "looks" with
              | .error n => .error n
              | .ok lo => match readLot cl ls (i + 2) "writes" with
                | .error n => .error n
                | .ok wr => readKinds cl ls fu (i + 3) (ks ++ [(x, lo, wr)])
            else .error (i + 1)) (cls 1) (fun ks => Qd (dRights ks) []) Xd := k
          rw [if_pos (by simp)]
          refine ⟨_, atI0, x, rfl, by have := (hwt x List.mem_cons_self).le; omega, _, rfl, ?_⟩
          by_cases hx : isName x = true
          · rw [if_pos hx]
            refine ⟨_, atI0, _, rfl, ?_⟩
            rw [any_key]
            refine ⟨_, i, rfl, ?_⟩
            by_cases hmm : x ∈ ks.map (·.1)
            · rw [if_neg (by simpa using hmm)]
              rw [if_neg (fun z => z.2.2 hmm)] at k
              exact k
            · rw [if_pos (by simpa using hmm)]
              rw [if_pos ⟨h4, hx, hmm⟩] at k
              refine ⟨cl, ls, i + 1, _, by rw [e1]; rfl, hc, hcl, hls, ⟨by decide +kernel, by decide +kernel⟩, ?_⟩
              rw [show (Str.ofString "looks" : Str) = "looks" from rfl]
              cases hlo : readLot cl ls (i + 1) "looks" with
              | error n => rw [hlo] at k; exact k
              | ok lo =>
                rw [hlo] at k
                simp only [Ans]
                refine ⟨cl, ls, i + 2, _, by rw [e2]; rfl, hc, hcl, hls, ⟨by decide +kernel, by decide +kernel⟩, ?_⟩
                rw [show (Str.ofString "writes" : Str) = "writes" from rfl]
                cases hwr : readLot cl ls (i + 2) "writes" with
                | error n => rw [hwr] at k; exact k
                | ok wr =>
                  rw [hwr] at k
                  simp only [Ans]
                  refine ⟨by decide, _, atI0, _, rfl, Nat.lt_of_lt_of_le (show ks.length < 100000 by omega) (by rw [sizeLine_eq]; omega), fu, by omega, i + 3, ks ++ [(x, lo, wr)], s2, .val (.lst ([x].map D.str)), .val (dLot lo), .val (dLot wr), by omega, fun z => by simp at z, by simp; omega, ?_, ?_, k⟩
                  · rw [List.map_append]
                    exact List.nodup_append.mpr ⟨hnd, by simp, fun a ha b hb => by
                      have e : b = x := by simpa using hb
                      subst e
                      exact fun z => hmm (z ▸ ha)⟩
                  · have e := put_right ks x lo wr hmm
                    rw [← e]
                    rfl
          · rw [if_neg hx]
            rw [if_neg (fun z => hx z.2.1)] at k
            exact ⟨false, i, rfl, k⟩
        · rw [if_neg (by simp; omega)]
          refine ⟨false, i, rfl, ?_⟩
          match ns, hn, k with
          | [], _, k => exact k
          | [x], hn, _ => exact absurd rfl hn
          | _ :: _ :: _, _, k => exact k
      · rw [if_neg (by omega)]
        refine ⟨false, i, rfl, ?_⟩
        match ns, k with
        | [], k => exact k
        | [x], k =>
          have k : Ans (if ks.length < 4 ∧ isName x = true ∧ x ∉ ks.map (·.1) then
              match readLot cl ls (i + 1) "looks" with
              | .error n => .error n
              | .ok lo => match readLot cl ls (i + 2) "writes" with
                | .error n => .error n
                | .ok wr => readKinds cl ls fu (i + 3) (ks ++ [(x, lo, wr)])
            else .error (i + 1)) (cls 1) (fun ks => Qd (dRights ks) []) Xd := k
          rw [if_neg (fun z => h4 z.1)] at k
          exact k
        | _ :: _ :: _, k => exact k
  · have h1 : ¬ i < ls.length := fun h => hcond (.inl h)
    have h2 : ks ≠ [] := fun h => hcond (.inr h)
    rw [if_neg (by omega), if_neg (by cases ks with
      | nil => exact absurd rfl h2
      | cons => simp)]
    cases m with
    | zero => exact k
    | succ fu => rw [readKinds, if_neg hcond] at k; exact k
structure BookC (K : PySem.W.Frag) (C : Addr) : Prop where
  cls : Cls K C
  na : ∀ f ∈ bkF, NoAttr K C f
  ks : PySem.W.kitOne K (.type "str") (.type "str") = some true
theorem ok_init {C : Addr} (B : Blt mg) (BC : BookC K C) (T : DefTI K mg "Book" C "Book.__init__" S_Book___init__ ["self", "text"]) (R : ∀ (i : Nat) x, errNames[i]? = some x → RsE P w K mg base 1 x (cls i)) (Dread_clients : DefE P w K mg base τ false 5 "read_clients" ["lines"] 1 none (cReadClients (cls 1)))
    (Dread_rivals : DefE P w K mg base τ false 5 "read_rivals" ["clients", "lines"] 2 none (cReadRivals (cls 1))) (Dread_kinds : DefE P w K mg base τ false 6 "read_kinds" ["clients", "lines", "start"] 3 none (cReadKinds (cls 1))) : DefI' P w K mg base τ false 7 "Book" C 2 (cInitBook (cls 1)) := by
  refine def_I (k := 6) T sc_Book___init__ rfl (by decide) fun f cdv A outer s H E c hr hG => ⟨_, (s_cons (s_if (t_not (t_val (a_cb (callR_of calli_isi) callD_rC rfl B.isinstance (by decide +kernel) (aa_cons (a_var (pv 1)) (aa_cons (a_globT (pe_bltn (v := .ty "str") (u := .type "str") rfl B.str (by decide +kernel) rfl)) aa_nil))) (fun _ h => pt_val h)))
      (s_one (s_raise (R 1 _ rfl) rfl (takes_of rfl rfl rfl rfl) hr (by omega) rfl (aa_cons a_int aa_nil)))
      s_nil)
      (s_cons (s_setF (i := 2) sc_Book___init__.nd rfl (by first | exact .inl rfl | exact .inr rfl) (a_split (a_var (pv 1)) a_str))
      (s_cons (s_set (i := 3) sc_Book___init__.nd rfl (by first | exact .inl rfl | exact .inr rfl) (a_callD Dread_clients hr (by omega) calm0 rfl (takes_of rfl rfl rfl rfl) (aa_cons (a_var (pv 2)) aa_nil)))
      (s_cons (s_set (i := 4) sc_Book___init__.nd rfl (by first | exact .inl rfl | exact .inr rfl) (a_callD Dread_rivals hr (by omega) calm0 rfl (takes_of rfl rfl rfl rfl) (aa_cons (a_var (pv 3)) (aa_cons (a_var (pv 2)) aa_nil))))
      (s_cons (s_set (i := 5) sc_Book___init__.nd rfl (by first | exact .inl rfl | exact .inr rfl) (a_callD Dread_kinds hr (by omega) calm0 rfl (takes_of rfl rfl rfl rfl) (aa_cons (a_var (pv 3)) (aa_cons (a_var (pv 2)) (aa_cons (a_add a_int (a_cb call_len calld_len rfl B.len PySem.boot_len (aa_cons (a_var (pv 4)) aa_nil))) aa_nil)))))
      (s_cons (s_setA (pv 0) (a_var (pv 1)))
      (s_cons (s_setA (pv 0) (a_var (pv 3)))
      (s_cons (s_setA (pv 0) (a_ct call_tuple_of calld_tuple rfl B.tuple (by decide +kernel) (aa_cons (a_fv (a_cbF cr_sortedPS callf_sorted rfl B.sorted (by decide +kernel) (aa_cons (a_var (pv 4)) aa_nil))) aa_nil)))
      (s_cons (s_setA (pv 0) (a_ct (call_tupleD rfl) calld_tupD rfl B.tuple (by decide +kernel) (aa_cons (a_var (pv 5)) aa_nil)))
      (s_one (s_setA (pv 0) (a_var (pv 5))))))))))))), ?_⟩
  rintro a ds Qd Xd hl ⟨t, rfl, ht, k⟩
  simp only [wSeqR, Rest_cons, wIf, wB, wOp, wOpF, gtD, ltD, geD, leD, intD0, DL.intD, subD, mulD, fdivD, modD, powD, addD, catD, wIxM, wC, wSet, wSetF, wSetM, wRet, wRetF, wRetN, wVar, wFv, wLst, wTup, wCB, wCBF, wCons, wNil, wRef, wNext, wDrop, wAnd, wOr, wNot, wAndV, wOrV, wNotV, wIfE, wNeg, intC, absD, maxD, minD, lenD, wLenM, atDd, atD, mutOf, setMut, agR, agDs, env0, parm, bodyEnds, bodyEndsF, gN, wAsg, exists_eq_left, exists_eq_left', exists_eq, exists_eq', Option.some.injEq, D.int.injEq, Sl.bor.injEq, Sl.own.injEq, Sl.val.injEq, D.bl.injEq, D.str.injEq, D.lst.injEq, D.tup.injEq, and_true, true_and, exists_const, exists_and_left, exists_and_right, List.getElem?_cons_zero, List.getElem?_cons_succ, List.set_cons_zero, List.set_cons_succ, List.length_cons, List.length_nil, decide_eq_true_eq, if_true, if_false, ite_true, ite_false, List.replicate, List.append_nil, List.nil_append, List.cons_append, List.append_eq, atI0, atI1, atI2, ixN0, ixN1, ixN2, ix30, ix31, ix32, Nat.zero_add, Nat.reduceAdd, Nat.reduceSub, Nat.reduceLeDiff, Option.some.injEq, reduceCtorEq, if_pos, List.replicate_succ, List.replicate_zero, wCall, wCallF, wCon, wConF, wLRg1, agR, agDs, wMkE, wExtend, wAppend, wDic, wDNew, wVals, wValE, Ag.vl.injEq, List.cons.injEq, wFor_eq, wIn, wEnum, wLc_eq, wRange, wYes, gTupD, gConsD, gNilD, List.map_cons, List.map_nil, wipeE, wSplit, wSm0, wChain, wSlF, wPart, wNoP, wWhile_eq, wAug, wPar, wPar3, wPopAt, wRaise, wSetD, wSetK, wLenB, wNinB, wTru, wTruB, wVarB, wFld, wSetA, wMake, wMeth, wTold, wParFF, wParVF, wJoin, wLenSet, isN, isNoneD, wInM, Sl.box.injEq, D.dic.injEq, D.ins.injEq, wDun, wInI, wLenI, wBinI, id, wFstr, wJs, wFmt, wInsert, wSetDI, dLot, dRights, and_assoc, envI]
  refine ⟨_, _, true, .str _, .ty _, BC.ks, true, rfl, ?_⟩
  rw [if_neg (by decide)]
  have hls : ∀ w ∈ Txt.split t (Str.ofString "\n"), Tx w := ht.parts
  have hn : (Txt.split t (Str.ofString "\n")).length ≤ 100000 := by
    have h1 := split_count (s := t) (y := Str.ofString "\n") (by decide)
    have h2 := ht.le
    omega
  refine ⟨by decide, sl_big (by have := ht.le; omega), ?_⟩
  unfold WB.read at k
  rw [show nl = Str.ofString "\n" from rfl] at k
  generalize Txt.split t (Str.ofString "\n") = ls at hls hn k
  refine ⟨ls, rfl, hls, ?_⟩
  cases hrc : readClients ls with
  | error n => simp only [hrc] at k; exact k
  | ok cl =>
    simp only [hrc] at k
    obtain ⟨hct, _, hc8, _⟩ := readClients_tx hls hrc
    simp only [Ans, dLot]
    refine ⟨cl, ls, rfl, hct, by omega, hls, hn, ?_⟩
    cases hrr : readRivals cl (ls.drop 1) 1 [] with
    | error n => simp only [hrr] at k; exact k
    | ok ps =>
      simp only [hrr] at k
      simp only [Ans]
      refine ⟨cl, ls, 1 + ps.length, by rw [List.length_map]; simp [dLot], hct, by omega, hls, ?_⟩
      cases hrk : readKinds cl ls (ls.length + 1) (1 + ps.length) [] with
      | error n => simp only [hrk] at k; exact k
      | ok ks =>
        simp only [hrk] at k
        simp only [Ans]
        refine ⟨BC.cls, BC.na _ (by decide), by decide, BC.cls, BC.na _ (by decide), by decide, ps, rfl, fun qs hp ha => ?_⟩
        refine ⟨BC.cls, BC.na _ (by decide), by decide, ks.map (·.1), ks.map dRight, by simp [dRights, List.map_map, Function.comp_def], BC.cls, BC.na _ (by decide), by decide, BC.cls, BC.na _ (by decide), by decide, ?_⟩
        have e := k qs hp ha
        refine ⟨_, _, rfl, ?_⟩
        have e3 : bkV ⟨t, cl, ps, ks⟩ qs = [.str t, .tup (cl.map D.str), .tup (qs.map D2), .tup ((ks.map (·.1)).map D.str), dRights ks] := by
          simp [bkV, dLot, List.map_map, Function.comp_def]
        rw [e3] at e
        exact e
end
end K05
set_option Elab.async false
set_option linter.all false
set_option maxRecDepth 100000
set_option maxHeartbeats 4000000
namespace K05
open PySem PySem.Spec PyProof.Rows L2 DL WB LamX
abbrev S_Book__need_client : Stmt := inClass (top 13) 12
theorem sc_Book__need_client : FnScope ["self", "value"] ["self", "value"] (defScope S_Book__need_client) := ⟨rfl, rfl, rfl, by decide +kernel, rfl, by decide +kernel, by decide +kernel⟩
abbrev S_Book_are_rivals : Stmt := inClass (top 13) 4
theorem sc_Book_are_rivals : FnScope ["self", "one", "other"] ["self", "one", "other"] (defScope S_Book_are_rivals) := ⟨rfl, rfl, rfl, by decide +kernel, rfl, by decide +kernel, by decide +kernel⟩
section
variable {P : Program} {w : World} {K : PySem.W.Frag} {mg : Str → Option Value} {base : Heap} {τ : TBL} {cls : Nat → Addr} {C : Addr}
theorem ok_need_client (hS : SysB base) (BC : BookC K C) (T : DefTM K C "_need_client" "Book._need_client" S_Book__need_client ["self", "value"]) (R : ∀ (i : Nat) x, errNames[i]? = some x → RsE P w K mg base 1 x (cls i)) : DefM P w K mg base τ false 3 C "_need_client" 2 none (cNeedC C (cls 2)) := by
  refine def_M (k := 2) T sc_Book__need_client rfl (by decide) fun f cdv A outer s H E c hr hG => ⟨_, (s_one (s_if (t_ninS hS (units65 hr) (a_var (pv 1)) (a_fld (a_var (pv 0))))
      (s_one (s_raise (R 2 _ rfl) rfl (takes_of rfl rfl rfl rfl) hr (by omega) rfl (aa_cons (a_var (pv 1)) aa_nil)))
      s_nil)), ?_⟩
  rintro a ds m Qd Xd hl hm ⟨b, rv, x, rfl, ok, hx, k⟩
  obtain rfl := hm rfl
  simp only [wSeqR, Rest_cons, wIf, wB, wOp, wOpF, gtD, ltD, geD, leD, intD0, DL.intD, subD, mulD, fdivD, modD, powD, addD, catD, wIxM, wC, wSet, wSetF, wSetM, wRet, wRetF, wRetN, wVar, wFv, wLst, wTup, wCB, wCBF, wCons, wNil, wRef, wNext, wDrop, wAnd, wOr, wNot, wAndV, wOrV, wNotV, wIfE, wNeg, intC, absD, maxD, minD, lenD, wLenM, atDd, atD, mutOf, setMut, agR, agDs, env0, parm, bodyEnds, bodyEndsF, gN, wAsg, exists_eq_left, exists_eq_left', exists_eq, exists_eq', Option.some.injEq, D.int.injEq, Sl.bor.injEq, Sl.own.injEq, Sl.val.injEq, D.bl.injEq, D.str.injEq, D.lst.injEq, D.tup.injEq, and_true, true_and, exists_const, exists_and_left, exists_and_right, List.getElem?_cons_zero, List.getElem?_cons_succ, List.set_cons_zero, List.set_cons_succ, List.length_cons, List.length_nil, decide_eq_true_eq, if_true, if_false, ite_true, ite_false, List.replicate, List.append_nil, List.nil_append, List.cons_append, List.append_eq, atI0, atI1, atI2, ixN0, ixN1, ixN2, ix30, ix31, ix32, Nat.zero_add, Nat.reduceAdd, Nat.reduceSub, Nat.reduceLeDiff, Option.some.injEq, reduceCtorEq, if_pos, List.replicate_succ, List.replicate_zero, wCall, wCallF, wCon, wConF, wLRg1, agR, agDs, wMkE, wExtend, wAppend, wDic, wDNew, wVals, wValE, Ag.vl.injEq, List.cons.injEq, wFor_eq, wIn, wEnum, wLc_eq, wRange, wYes, gTupD, gConsD, gNilD, List.map_cons, List.map_nil, wipeE, wSplit, wSm0, wChain, wSlF, wPart, wNoP, wWhile_eq, wAug, wPar, wPar3, wPopAt, wRaise, wSetD, wSetK, wLenB, wNinB, wTru, wTruB, wVarB, wFld, wSetA, wMake, wMeth, wTold, wParFF, wParVF, wJoin, wLenSet, isN, isNoneD, wInM, Sl.box.injEq, D.dic.injEq, D.ins.injEq, wDun, wInI, wLenI, wBinI, id, wFstr, wJs, wFmt, wInsert, wSetDI, dBook]
  refine ⟨C, _, _, ⟨rfl, rfl, rfl⟩, ⟨BC.cls, BC.na _ (by decide)⟩, _, rfl, b.clients, .inr rfl, ok.cl, hx, _, rfl, ?_⟩
  by_cases h : memS b.clients x = true
  · rw [if_pos h] at k
    simpa [h] using k
  · rw [if_neg h] at k
    simpa [h] using k
theorem ok_are_rivals (hS : SysB base) (BC : BookC K C) (T : DefTM K C "are_rivals" "Book.are_rivals" S_Book_are_rivals ["self", "one", "other"]) (MBook__need_client : DefM P w K mg base τ false 3 C "_need_client" 2 none (cNeedC C (cls 2))) : DefM P w K mg base τ false 4 C "are_rivals" 3 none (cAre C (cls 2)) := by
  refine def_M (k := 3) T sc_Book_are_rivals rfl (by decide) fun f cdv A outer s H E c hr hG => ⟨_, (s_cons (s_expr (a_meth MBook__need_client (a_var (pv 0)) hr (by omega) calm0 (takes_of rfl rfl rfl rfl) (aa_cons (a_var (pv 1)) aa_nil)))
      (s_cons (s_expr (a_meth MBook__need_client (a_var (pv 0)) hr (by omega) calm0 (takes_of rfl rfl rfl rfl) (aa_cons (a_var (pv 2)) aa_nil)))
      (s_one (s_ret (a_or (a_inP hS (units65 hr) (a_tup (aa_cons (a_var (pv 1)) (aa_cons (a_var (pv 2)) aa_nil))) (a_fld (a_var (pv 0)))) (a_one (a_inP hS (units65 hr) (a_tup (aa_cons (a_var (pv 2)) (aa_cons (a_var (pv 1)) aa_nil))) (a_fld (a_var (pv 0)))))))))), ?_⟩
  rintro a ds m Qd Xd hl hm ⟨b, rv, x, y, rfl, ok, hx, hy, k⟩
  obtain rfl := hm rfl
  simp only [wSeqR, Rest_cons, wIf, wB, wOp, wOpF, gtD, ltD, geD, leD, intD0, DL.intD, subD, mulD, fdivD, modD, powD, addD, catD, wIxM, wC, wSet, wSetF, wSetM, wRet, wRetF, wRetN, wVar, wFv, wLst, wTup, wCB, wCBF, wCons, wNil, wRef, wNext, wDrop, wAnd, wOr, wNot, wAndV, wOrV, wNotV, wIfE, wNeg, intC, absD, maxD, minD, lenD, wLenM, atDd, atD, mutOf, setMut, agR, agDs, env0, parm, bodyEnds, bodyEndsF, gN, wAsg, exists_eq_left, exists_eq_left', exists_eq, exists_eq', Option.some.injEq, D.int.injEq, Sl.bor.injEq, Sl.own.injEq, Sl.val.injEq, D.bl.injEq, D.str.injEq, D.lst.injEq, D.tup.injEq, and_true, true_and, exists_const, exists_and_left, exists_and_right, List.getElem?_cons_zero, List.getElem?_cons_succ, List.set_cons_zero, List.set_cons_succ, List.length_cons, List.length_nil, decide_eq_true_eq, if_true, if_false, ite_true, ite_false, List.replicate, List.append_nil, List.nil_append, List.cons_append, List.append_eq, atI0, atI1, atI2, ixN0, ixN1, ixN2, ix30, ix31, ix32, Nat.zero_add, Nat.reduceAdd, Nat.reduceSub, Nat.reduceLeDiff, Option.some.injEq, reduceCtorEq, if_pos, List.replicate_succ, List.replicate_zero, wCall, wCallF, wCon, wConF, wLRg1, agR, agDs, wMkE, wExtend, wAppend, wDic, wDNew, wVals, wValE, Ag.vl.injEq, List.cons.injEq, wFor_eq, wIn, wEnum, wLc_eq, wRange, wYes, gTupD, gConsD, gNilD, List.map_cons, List.map_nil, wipeE, wSplit, wSm0, wChain, wSlF, wPart, wNoP, wWhile_eq, wAug, wPar, wPar3, wPopAt, wRaise, wSetD, wSetK, wLenB, wNinB, wTru, wTruB, wVarB, wFld, wSetA, wMake, wMeth, wTold, wParFF, wParVF, wJoin, wLenSet, isN, isNoneD, wInM, Sl.box.injEq, D.dic.injEq, D.ins.injEq, wDun, wInI, wLenI, wBinI, id, wFstr, wJs, wFmt, wInsert, wSetDI, dBook]
  refine ⟨_, _, ⟨rfl, rfl⟩, rfl, b, rv, x, rfl, ok, hx, ?_⟩
  have k := oneOf_mem k
  by_cases h : memS b.clients x = true
  · rw [if_pos h] at k ⊢
    obtain ⟨u, rfl, hu, k⟩ := k
    refine ⟨_, _, ⟨rfl, rfl⟩, rfl, b, rv, y, rfl, ok, hy, ?_⟩
    have k := oneOf_mem k
    by_cases h2 : memS b.clients y = true
    · rw [if_pos h2] at k ⊢
      obtain ⟨v, rfl, hv, k⟩ := k
      have okp : ∀ {p q : Str}, p ∈ b.clients → q ∈ b.clients → PyData.strOk p = true ∧ PyData.strOk q = true := fun h1 h2 => ⟨ok.cl _ h1, ok.cl _ h2⟩
      refine ⟨sz, C, _, _, ⟨rfl, rfl, rfl⟩, ⟨BC.cls, BC.na _ (by decide)⟩, _, rfl, inP_pairs (c := (u, v)) (.inr rfl) (okp hu hv) ok.rv ?_⟩
      simp only [Bool.false_eq_true, if_false]
      refine ⟨_, rfl, ?_⟩
      by_cases h3 : (u, v) ∈ rv
      · rw [if_pos (decide_eq_true h3)]
        rw [show arR rv u v = true by simp [arR, h3]] at k
        exact k
      · rw [if_neg (by simpa using h3)]
        rw [show arR rv u v = decide ((v, u) ∈ rv) by simp [arR, h3]] at k
        refine ⟨sz, C, _, _, ⟨rfl, rfl, rfl⟩, ⟨BC.cls, BC.na _ (by decide)⟩, _, rfl, inP_pairs (c := (v, u)) (.inr rfl) (okp hv hu) ok.rv ?_⟩
        simp only [Bool.false_eq_true, if_false]
        exact k
    · rw [if_neg h2] at k ⊢
      exact k
  · rw [if_neg h] at k ⊢
    exact k
end

abbrev S_Book___len__ : Stmt := inClass (top 13) 1
theorem sc_Book___len__ : FnScope ["self"] ["self"] (defScope S_Book___len__) := ⟨rfl, rfl, rfl, by decide +kernel, rfl, by decide +kernel, by decide +kernel⟩
abbrev S_Book___contains__ : Stmt := inClass (top 13) 2
theorem sc_Book___contains__ : FnScope ["self", "value"] ["self", "value"] (defScope S_Book___contains__) := ⟨rfl, rfl, rfl, by decide +kernel, rfl, by decide +kernel, by decide +kernel⟩
abbrev S_Book___eq__ : Stmt := inClass (top 13) 3
theorem sc_Book___eq__ : FnScope ["self", "other"] ["self", "other"] (defScope S_Book___eq__) := ⟨rfl, rfl, rfl, by decide +kernel, rfl, by decide +kernel, by decide +kernel⟩
section
variable {P : Program} {w : World} {K : PySem.W.Frag} {mg : Str → Option Value} {base : Heap} {τ : TBL} {cls : Nat → Addr} {C : Addr}
theorem ok_len_bk (B : Blt mg) (BC : BookC K C) (T : DefTM K C "__len__" "Book.__len__" S_Book___len__ ["self"]) : DefM P w K mg base τ false 1 C "__len__" 1 none (cLenBk C) := by
  refine def_M (k := 0) T sc_Book___len__ rfl (by decide) fun f cdv A outer s H E c hr hG => ⟨_, (s_one (s_ret (a_cb call_len calld_len rfl B.len PySem.boot_len (aa_cons (a_fld (a_var (pv 0))) aa_nil)))), ?_⟩
  rintro a ds m Qd Xd hl hm ⟨b, rv, rfl, k⟩
  obtain rfl := hm rfl
  simp only [wSeqR, Rest_cons, wIf, wB, wOp, wOpF, gtD, ltD, geD, leD, intD0, DL.intD, subD, mulD, fdivD, modD, powD, addD, catD, wIxM, wC, wSet, wSetF, wSetM, wRet, wRetF, wRetN, wVar, wFv, wLst, wTup, wCB, wCBF, wCons, wNil, wRef, wNext, wDrop, wAnd, wOr, wNot, wAndV, wOrV, wNotV, wIfE, wNeg, intC, absD, maxD, minD, lenD, wLenM, atDd, atD, mutOf, setMut, agR, agDs, env0, parm, bodyEnds, bodyEndsF, gN, wAsg, exists_eq_left, exists_eq_left', exists_eq, exists_eq', Option.some.injEq, D.int.injEq, Sl.bor.injEq, Sl.own.injEq, Sl.val.injEq, D.bl.injEq, D.str.injEq, D.lst.injEq, D.tup.injEq, and_true, true_and, exists_const, exists_and_left, exists_and_right, List.getElem?_cons_zero, List.getElem?_cons_succ, List.set_cons_zero, List.set_cons_succ, List.length_cons, List.length_nil, decide_eq_true_eq, if_true, if_false, ite_true, ite_false, List.replicate, List.append_nil, List.nil_append, List.cons_append, List.append_eq, atI0, atI1, atI2, ixN0, ixN1, ixN2, ix30, ix31, ix32, Nat.zero_add, Nat.reduceAdd, Nat.reduceSub, Nat.reduceLeDiff, Option.some.injEq, reduceCtorEq, if_pos, List.replicate_succ, List.replicate_zero, wCall, wCallF, wCon, wConF, wLRg1, agR, agDs, wMkE, wExtend, wAppend, wDic, wDNew, wVals, wValE, Ag.vl.injEq, List.cons.injEq, wFor_eq, wIn, wEnum, wLc_eq, wRange, wYes, gTupD, gConsD, gNilD, List.map_cons, List.map_nil, wipeE, wSplit, wSm0, wChain, wSlF, wPart, wNoP, wWhile_eq, wAug, wPar, wPar3, wPopAt, wRaise, wSetD, wSetK, wLenB, wNinB, wTru, wTruB, wVarB, wFld, wSetA, wMake, wMeth, wTold, wParFF, wParVF, wJoin, wLenSet, isN, isNoneD, wInM, Sl.box.injEq, D.dic.injEq, D.ins.injEq, wDun, wInI, wLenI, wBinI, id, wFstr, wJs, wFmt, wInsert, wSetDI, dBook]
  refine ⟨C, _, _, ⟨rfl, rfl, rfl⟩, ⟨BC.cls, BC.na _ (by decide)⟩, _, rfl, ?_⟩
  show Qd (.int ((b.clients.map D.str).length : Nat)) _
  rw [List.length_map]
  exact k
theorem ok_in_bk (hS : SysB base) (BC : BookC K C) (T : DefTM K C "__contains__" "Book.__contains__" S_Book___contains__ ["self", "value"]) : DefM P w K mg base τ false 1 C "__contains__" 2 none (cInBk C) := by
  refine def_M (k := 0) T sc_Book___contains__ rfl (by decide) fun f cdv A outer s H E c hr hG => ⟨_, (s_one (s_ret (a_inS hS (units65 hr) (a_var (pv 1)) (a_fld (a_var (pv 0)))))), ?_⟩
  rintro a ds m Qd Xd hl hm ⟨b, rv, x, rfl, ok, hx, k⟩
  obtain rfl := hm rfl
  simp only [wSeqR, Rest_cons, wIf, wB, wOp, wOpF, gtD, ltD, geD, leD, intD0, DL.intD, subD, mulD, fdivD, modD, powD, addD, catD, wIxM, wC, wSet, wSetF, wSetM, wRet, wRetF, wRetN, wVar, wFv, wLst, wTup, wCB, wCBF, wCons, wNil, wRef, wNext, wDrop, wAnd, wOr, wNot, wAndV, wOrV, wNotV, wIfE, wNeg, intC, absD, maxD, minD, lenD, wLenM, atDd, atD, mutOf, setMut, agR, agDs, env0, parm, bodyEnds, bodyEndsF, gN, wAsg, exists_eq_left, exists_eq_left', exists_eq, exists_eq', Option.some.injEq, D.int.injEq, Sl.bor.injEq, Sl.own.injEq, Sl.val.injEq, D.bl.injEq, D.str.injEq, D.lst.injEq, D.tup.injEq, and_true, true_and, exists_const, exists_and_left, exists_and_right, List.getElem?_cons_zero, List.getElem?_cons_succ, List.set_cons_zero, List.set_cons_succ, List.length_cons, List.length_nil, decide_eq_true_eq, if_true, if_false, ite_true, ite_false, List.replicate, List.append_nil, List.nil_append, List.cons_append, List.append_eq, atI0, atI1, atI2, ixN0, ixN1, ixN2, ix30, ix31, ix32, Nat.zero_add, Nat.reduceAdd, Nat.reduceSub, Nat.reduceLeDiff, Option.some.injEq, reduceCtorEq, if_pos, List.replicate_succ, List.replicate_zero, wCall, wCallF, wCon, wConF, wLRg1, agR, agDs, wMkE, wExtend, wAppend, wDic, wDNew, wVals, wValE, Ag.vl.injEq, List.cons.injEq, wFor_eq, wIn, wEnum, wLc_eq, wRange, wYes, gTupD, gConsD, gNilD, List.map_cons, List.map_nil, wipeE, wSplit, wSm0, wChain, wSlF, wPart, wNoP, wWhile_eq, wAug, wPar, wPar3, wPopAt, wRaise, wSetD, wSetK, wLenB, wNinB, wTru, wTruB, wVarB, wFld, wSetA, wMake, wMeth, wTold, wParFF, wParVF, wJoin, wLenSet, isN, isNoneD, wInM, Sl.box.injEq, D.dic.injEq, D.ins.injEq, wDun, wInI, wLenI, wBinI, id, wFstr, wJs, wFmt, wInsert, wSetDI, dBook]
  refine ⟨C, _, _, ⟨rfl, rfl, rfl⟩, ⟨BC.cls, BC.na _ (by decide)⟩, _, rfl, b.clients, .inr rfl, ok.cl, hx, ?_⟩
  simpa using k
theorem ok_eq_bk (B : Blt mg) (hS : SysB base) (BC : BookC K C) (IBook : InsK K C) (mgBook : mg "Book" = some (.ref C)) (T : DefTM K C "__eq__" "Book.__eq__" S_Book___eq__ ["self", "other"]) : DefM P w K mg base τ false 1 C "__eq__" 2 none (cEqBk C) := by
  refine def_M (k := 0) T sc_Book___eq__ rfl (by decide) fun f cdv A outer s H E c hr hG => ⟨_, (s_one (s_ret (a_and (a_cb (callR_of calli_isi) callD_rC rfl B.isinstance (by decide +kernel) (aa_cons (a_var (pv 1)) (aa_cons (a_globA (pe_glob rfl mgBook rfl)) aa_nil))) (a_one (a_eq hS hr.units (a_fld (a_var (pv 0))) (a_fld (a_var (pv 1)))))))), ?_⟩
  rintro a ds m Qd Xd hl hm ⟨b, rv, y, rfl, k⟩
  obtain rfl := hm rfl
  simp only [wSeqR, Rest_cons, wIf, wB, wOp, wOpF, gtD, ltD, geD, leD, intD0, DL.intD, subD, mulD, fdivD, modD, powD, addD, catD, wIxM, wC, wSet, wSetF, wSetM, wRet, wRetF, wRetN, wVar, wFv, wLst, wTup, wCB, wCBF, wCons, wNil, wRef, wNext, wDrop, wAnd, wOr, wNot, wAndV, wOrV, wNotV, wIfE, wNeg, intC, absD, maxD, minD, lenD, wLenM, atDd, atD, mutOf, setMut, agR, agDs, env0, parm, bodyEnds, bodyEndsF, gN, wAsg, exists_eq_left, exists_eq_left', exists_eq, exists_eq', Option.some.injEq, D.int.injEq, Sl.bor.injEq, Sl.own.injEq, Sl.val.injEq, D.bl.injEq, D.str.injEq, D.lst.injEq, D.tup.injEq, and_true, true_and, exists_const, exists_and_left, exists_and_right, List.getElem?_cons_zero, List.getElem?_cons_succ, List.set_cons_zero, List.set_cons_succ, List.length_cons, List.length_nil, decide_eq_true_eq, if_true, if_false, ite_true, ite_false, List.replicate, List.append_nil, List.nil_append, List.cons_append, List.append_eq, atI0, atI1, atI2, ixN0, ixN1, ixN2, ix30, ix31, ix32, Nat.zero_add, Nat.reduceAdd, Nat.reduceSub, Nat.reduceLeDiff, Option.some.injEq, reduceCtorEq, if_pos, List.replicate_succ, List.replicate_zero, wCall, wCallF, wCon, wConF, wLRg1, agR, agDs, wMkE, wExtend, wAppend, wDic, wDNew, wVals, wValE, Ag.vl.injEq, List.cons.injEq, wFor_eq, wIn, wEnum, wLc_eq, wRange, wYes, gTupD, gConsD, gNilD, List.map_cons, List.map_nil, wipeE, wSplit, wSm0, wChain, wSlF, wPart, wNoP, wWhile_eq, wAug, wPar, wPar3, wPopAt, wRaise, wSetD, wSetK, wLenB, wNinB, wTru, wTruB, wVarB, wFld, wSetA, wMake, wMeth, wTold, wParFF, wParVF, wJoin, wLenSet, isN, isNoneD, wInM, Sl.box.injEq, D.dic.injEq, D.ins.injEq, wDun, wInI, wLenI, wBinI, id, wFstr, wJs, wFmt, wInsert, wSetDI]
  rcases k with ⟨hy, k⟩ | ⟨b', rv', rfl, h1, h2, k⟩
  · refine isi_own_no IBook hy ⟨_, rfl, ?_⟩
    rw [if_neg (by decide)]
    exact k
  · refine isi_own_yes IBook ⟨_, rfl, ?_⟩
    rw [if_pos rfl]
    refine ⟨C, _, _, rfl, ⟨BC.cls, BC.na _ (by decide)⟩, _, rfl, C, _, _, rfl, ⟨BC.cls, BC.na _ (by decide)⟩, _, rfl, ?_⟩
    exact eqD_str2 h1 h2 k
end

abbrev S_Book_with_rivals : Stmt := inClass (top 13) 8
theorem sc_Book_with_rivals : FnScope ["self", "one", "other", "lines"] ["self", "one", "other"] (defScope S_Book_with_rivals) := ⟨rfl, rfl, rfl, by decide +kernel, rfl, by decide +kernel, by decide +kernel⟩
abbrev S_Book_without_rivals : Stmt := inClass (top 13) 9
theorem sc_Book_without_rivals : FnScope ["self", "one", "other", "told", "line"] ["self", "one", "other"] (defScope S_Book_without_rivals) := ⟨rfl, rfl, rfl, by decide +kernel, rfl, by decide +kernel, by decide +kernel⟩
/-- what comes of one pair of rivals more, less -/
def cWithR (C NC BR : Addr) : Con := fun ds _ Qd Xd => ∃ (L : Lore) (rv : List PStr) (x y : D), ds = [dBook C (bkOf L) rv, x, y] ∧ LoreOk L ∧ rv.Perm (L.rv.map (seqP L.cl)) ∧ OddV x ∧ OddV y ∧
  OneOf L.cl x (fun s => OneOf L.cl y (fun t => if (arR L.rv s t || decide (s = t)) = true then Xd BR (.tup [.str s, .str t]) else ∀ rv' : List PStr, rv'.Perm ((L.more (s, t)).rv.map (seqP L.cl)) → Asc rv' → Qd (dBook C (bkOf (L.more (s, t))) rv') []) (Xd NC)) (Xd NC)
def cWithoutR (C NC BR : Addr) : Con := fun ds _ Qd Xd => ∃ (L : Lore) (rv : List PStr) (x y : D), ds = [dBook C (bkOf L) rv, x, y] ∧ LoreOk L ∧ rv.Perm (L.rv.map (seqP L.cl)) ∧ OddV x ∧ OddV y ∧
  OneOf L.cl x (fun s => OneOf L.cl y (fun t => if arR L.rv s t = false then Xd BR (.tup [.str s, .str t]) else ∀ rv' : List PStr, rv'.Perm ((L.less s t).rv.map (seqP L.cl)) → Asc rv' → Qd (dBook C (bkOf (L.less s t)) rv') []) (Xd NC)) (Xd NC)
section
variable {P : Program} {w : World} {K : PySem.W.Frag} {mg : Str → Option Value} {base : Heap} {τ : TBL} {cls : Nat → Addr} {C : Addr}
theorem ok_with_rivals (B : Blt mg) (hS : SysB base) (BC : BookC K C) (T : DefTM K C "with_rivals" "Book.with_rivals" S_Book_with_rivals ["self", "one", "other"]) (R : ∀ (i : Nat) x, errNames[i]? = some x → RsE P w K mg base 1 x (cls i)) (MBook_are_rivals : DefM P w K mg base τ false 4 C "are_rivals" 3 none (cAre C (cls 2)))
    (DBook : DefI' P w K mg base τ false 7 "Book" C 2 (cInitBook (cls 1))) : DefM P w K mg base τ false 9 C "with_rivals" 3 none (cWithR C (cls 2) (cls 4)) := by
  refine def_M (k := 8) T sc_Book_with_rivals rfl (by decide) fun f cdv A outer s H E c hr hG => ⟨_, (s_cons (s_if (t_w (w_or (t_val (a_meth MBook_are_rivals (a_var (pv 0)) hr (by omega) calm0 (takes_of rfl rfl rfl rfl) (aa_cons (a_var (pv 1)) (aa_cons (a_var (pv 2)) aa_nil))) (fun _ h => pt_val h)) (w_or1 (t_eq hS hr.units (a_var (pv 1)) (a_var (pv 2))))))
      (s_one (s_raise (R 4 _ rfl) rfl (takes_of rfl rfl rfl rfl) hr (by omega) rfl (aa_cons (a_tup (aa_cons (a_var (pv 1)) (aa_cons (a_var (pv 2)) aa_nil))) aa_nil)))
      s_nil)
      (s_cons (s_setF (i := 3) sc_Book_with_rivals.nd rfl (by first | exact .inl rfl | exact .inr rfl) (a_split (a_fld (a_var (pv 0))) a_str))
      (s_cons (s_expr (a_insert (pv 3) (a_add a_int (a_cb call_len calld_len rfl B.len PySem.boot_len (aa_cons (a_fld (a_var (pv 0))) aa_nil))) (a_fstr (AJ.cons a_str (AJ.cons (a_fmt (a_var (pv 1))) (AJ.cons a_str (AJ.cons (a_fmt (a_var (pv 2))) AJ.nil)))))))
      (s_one (s_ret (a_make DBook hr (by omega) calm0 rfl (takes_of rfl rfl rfl rfl) (aa_cons (a_join a_str (a_var (pv 3))) aa_nil))))))), ?_⟩
  rintro a ds m Qd Xd hl hm ⟨L, rv, x, y, rfl, ok, hpr, hx, hy, k⟩
  obtain rfl := hm rfl
  have okb := ok.okr hpr
  have BA : ∀ f ∈ bkF, Cls K C ∧ NoAttr K C f := fun f hf => ⟨BC.cls, BC.na f hf⟩
  simp only [wSeqR, wIf, wB, wOp, wOpF, gtD, ltD, geD, leD, intD0, DL.intD, subD, mulD, fdivD, modD, powD, addD, catD, wIxM, wC, wSet, wSetF, wSetM, wRet, wRetF, wRetN, wVar, wFv, wLst, wTup, wCB, wCBF, wCons, wNil, wRef, wNext, wDrop, wAnd, wOr, wNot, wAndV, wOrV, wNotV, wIfE, wNeg, intC, absD, maxD, minD, lenD, wLenM, atDd, atD, mutOf, setMut, agR, agDs, env0, parm, bodyEnds, bodyEndsF, gN, wAsg, exists_eq_left, exists_eq_left', exists_eq, exists_eq', Option.some.injEq, D.int.injEq, Sl.bor.injEq, Sl.own.injEq, Sl.val.injEq, D.bl.injEq, D.str.injEq, D.lst.injEq, D.tup.injEq, and_true, true_and, exists_const, exists_and_left, exists_and_right, List.getElem?_cons_zero, List.getElem?_cons_succ, List.set_cons_zero, List.set_cons_succ, List.length_cons, List.length_nil, decide_eq_true_eq, if_true, if_false, ite_true, ite_false, List.replicate, List.append_nil, List.nil_append, List.cons_append, List.append_eq, atI0, atI1, atI2, ixN0, ixN1, ixN2, ix30, ix31, ix32, Nat.zero_add, Nat.reduceAdd, Nat.reduceSub, Nat.reduceLeDiff, Option.some.injEq, reduceCtorEq, if_pos, List.replicate_succ, List.replicate_zero, wCall, wCallF, wCon, wConF, wLRg1, agR, agDs, wMkE, wExtend, wAppend, wDic, wDNew, wVals, wValE, Ag.vl.injEq, List.cons.injEq, wFor_eq, wIn, wEnum, wLc_eq, wRange, wYes, gTupD, gConsD, gNilD, List.map_cons, List.map_nil, wipeE, wSplit, wSm0, wChain, wSlF, wPart, wNoP, wWhile_eq, wAug, wPar, wPar3, wPopAt, wRaise, wSetD, wSetK, wLenB, wNinB, wTru, wTruB, wVarB, wFld, wSetA, wMake, wMeth, wTold, wParFF, wParVF, wJoin, wLenSet, isN, isNoneD, wInM, Sl.box.injEq, D.dic.injEq, D.ins.injEq, wDun, wInI, wLenI, wBinI, id, wFstr, wJs, wFmt, wInsert, wSetDI, cxK, tupC, listF, restE, List.getD, Option.getD, dBook]
  refine ⟨_, _, ⟨rfl, rfl⟩, rfl, bkOf L, rv, x, y, rfl, okb, hx, hy, ?_⟩
  have k := oneOf_mem k
  show OneOf L.cl x _ _
  by_cases h1 : memS L.cl x = true
  · rw [if_pos h1] at k
    obtain ⟨s, rfl, hs, k⟩ := k
    refine oneOf_yes hs ?_
    have k := oneOf_mem k
    show OneOf L.cl y _ _
    by_cases h2 : memS L.cl y = true
    · rw [if_pos h2] at k
      obtain ⟨t, rfl, ht, k⟩ := k
      refine oneOf_yes ht ⟨_, rfl, ?_⟩
      rw [arR_lore hpr]
      by_cases h3 : arR L.rv s t = true
      · rw [if_pos (by simp [h3])] at k
        rw [if_pos h3]
        exact ⟨sz, k⟩
      · rw [if_neg h3]
        refine eqD_str2 (ok.wd s hs).ok (ok.wd t ht).ok ⟨_, rfl, ?_⟩
        by_cases h4 : s = t
        · rw [if_pos (by simp [h4])] at k
          rw [if_pos (by simp [h4])]
          exact ⟨sz, k⟩
        · rw [if_neg (by simp [h3, h4])] at k
          rw [if_neg (by simp [h4])]
          have ok' := lore_more ok hs ht h4 (eq_false_of_ne_true h3)
          obtain ⟨hT, hR⟩ := lore_text ok
          obtain ⟨hT', hR'⟩ := lore_text ok'
          have ls := (ok.wd s hs).le
          have lt := (ok.wd t ht).le
          (try simp only [restE, List.getD, Option.getD, List.set_cons_zero, List.set_cons_succ, List.getElem?_cons_zero, List.getElem?_cons_succ])
          rw [Rest_cons]
          simp only [wSeqR, wIf, wB, wOp, wOpF, gtD, ltD, geD, leD, intD0, DL.intD, subD, mulD, fdivD, modD, powD, addD, catD, wIxM, wC, wSet, wSetF, wSetM, wRet, wRetF, wRetN, wVar, wFv, wLst, wTup, wCB, wCBF, wCons, wNil, wRef, wNext, wDrop, wAnd, wOr, wNot, wAndV, wOrV, wNotV, wIfE, wNeg, intC, absD, maxD, minD, lenD, wLenM, atDd, atD, mutOf, setMut, agR, agDs, env0, parm, bodyEnds, bodyEndsF, gN, wAsg, exists_eq_left, exists_eq_left', exists_eq, exists_eq', Option.some.injEq, D.int.injEq, Sl.bor.injEq, Sl.own.injEq, Sl.val.injEq, D.bl.injEq, D.str.injEq, D.lst.injEq, D.tup.injEq, and_true, true_and, exists_const, exists_and_left, exists_and_right, List.getElem?_cons_zero, List.getElem?_cons_succ, List.set_cons_zero, List.set_cons_succ, List.length_cons, List.length_nil, decide_eq_true_eq, if_true, if_false, ite_true, ite_false, List.replicate, List.append_nil, List.nil_append, List.cons_append, List.append_eq, atI0, atI1, atI2, ixN0, ixN1, ixN2, ix30, ix31, ix32, Nat.zero_add, Nat.reduceAdd, Nat.reduceSub, Nat.reduceLeDiff, Option.some.injEq, reduceCtorEq, if_pos, List.replicate_succ, List.replicate_zero, wCall, wCallF, wCon, wConF, wLRg1, agR, agDs, wMkE, wExtend, wAppend, wDic, wDNew, wVals, wValE, Ag.vl.injEq, List.cons.injEq, wFor_eq, wIn, wEnum, wLc_eq, wRange, wYes, gTupD, gConsD, gNilD, List.map_cons, List.map_nil, wipeE, wSplit, wSm0, wChain, wSlF, wPart, wNoP, wWhile_eq, wAug, wPar, wPar3, wPopAt, wRaise, wSetD, wSetK, wLenB, wNinB, wTru, wTruB, wVarB, wFld, wSetA, wMake, wMeth, wTold, wParFF, wParVF, wJoin, wLenSet, isN, isNoneD, wInM, Sl.box.injEq, D.dic.injEq, D.ins.injEq, wDun, wInI, wLenI, wBinI, id, wFstr, wJs, wFmt, wInsert, wSetDI, cxK, tupC, listF, restE, List.getD, Option.getD]
          refine ⟨C, _, _, ⟨rfl, rfl, rfl⟩, BA _ (by decide), _, rfl, ⟨_, rfl⟩, txt (loreLines L), rfl, by decide, sl_big (by have := hT.le; omega), ?_⟩
          (try simp only [restE, List.getD, Option.getD, List.set_cons_zero, List.set_cons_succ, List.getElem?_cons_zero, List.getElem?_cons_succ])
          rw [Rest_cons]
          simp only [wSeqR, wIf, wB, wOp, wOpF, gtD, ltD, geD, leD, intD0, DL.intD, subD, mulD, fdivD, modD, powD, addD, catD, wIxM, wC, wSet, wSetF, wSetM, wRet, wRetF, wRetN, wVar, wFv, wLst, wTup, wCB, wCBF, wCons, wNil, wRef, wNext, wDrop, wAnd, wOr, wNot, wAndV, wOrV, wNotV, wIfE, wNeg, intC, absD, maxD, minD, lenD, wLenM, atDd, atD, mutOf, setMut, agR, agDs, env0, parm, bodyEnds, bodyEndsF, gN, wAsg, exists_eq_left, exists_eq_left', exists_eq, exists_eq', Option.some.injEq, D.int.injEq, Sl.bor.injEq, Sl.own.injEq, Sl.val.injEq, D.bl.injEq, D.str.injEq, D.lst.injEq, D.tup.injEq, and_true, true_and, exists_const, exists_and_left, exists_and_right, List.getElem?_cons_zero, List.getElem?_cons_succ, List.set_cons_zero, List.set_cons_succ, List.length_cons, List.length_nil, decide_eq_true_eq, if_true, if_false, ite_true, ite_false, List.replicate, List.append_nil, List.nil_append, List.cons_append, List.append_eq, atI0, atI1, atI2, ixN0, ixN1, ixN2, ix30, ix31, ix32, Nat.zero_add, Nat.reduceAdd, Nat.reduceSub, Nat.reduceLeDiff, Option.some.injEq, reduceCtorEq, if_pos, List.replicate_succ, List.replicate_zero, wCall, wCallF, wCon, wConF, wLRg1, agR, agDs, wMkE, wExtend, wAppend, wDic, wDNew, wVals, wValE, Ag.vl.injEq, List.cons.injEq, wFor_eq, wIn, wEnum, wLc_eq, wRange, wYes, gTupD, gConsD, gNilD, List.map_cons, List.map_nil, wipeE, wSplit, wSm0, wChain, wSlF, wPart, wNoP, wWhile_eq, wAug, wPar, wPar3, wPopAt, wRaise, wSetD, wSetK, wLenB, wNinB, wTru, wTruB, wVarB, wFld, wSetA, wMake, wMeth, wTold, wParFF, wParVF, wJoin, wLenSet, isN, isNoneD, wInM, Sl.box.injEq, D.dic.injEq, D.ins.injEq, wDun, wInI, wLenI, wBinI, id, wFstr, wJs, wFmt, wInsert, wSetDI, cxK, tupC, listF, restE, List.getD, Option.getD]
          have hrl : rv.length = L.rv.length := by rw [hpr.length_eq, List.length_map]
          have r28 := ok.rv28
          have h41 := lore_len ok
          have hsp := lore_split ok
          rw [show nl = Str.ofString "\n" from rfl] at hsp
          obtain ⟨b1, b2, b3, b4, b5, b6⟩ := riv_len ls lt
          rw [hsp]
          refine ⟨C, _, _, ⟨rfl, rfl, rfl⟩, BA _ (by decide), _, rfl, ?_⟩
          dsimp only
          refine ⟨1 + rv.length, by rw [List.length_map]; omega, b1, .inl ⟨b2, b3, b4, .inl ⟨b5, b6, Nat.lt_of_lt_of_le (show ((loreLines L).map ln |>.map D.str).length < 100000 by simp only [List.length_map]; omega) sz, by omega, ?_⟩⟩⟩
          (try simp only [restE, List.getD, Option.getD, List.set_cons_zero, List.set_cons_succ, List.getElem?_cons_zero, List.getElem?_cons_succ])
          rw [Rest_cons]
          simp only [wSeqR, wIf, wB, wOp, wOpF, gtD, ltD, geD, leD, intD0, DL.intD, subD, mulD, fdivD, modD, powD, addD, catD, wIxM, wC, wSet, wSetF, wSetM, wRet, wRetF, wRetN, wVar, wFv, wLst, wTup, wCB, wCBF, wCons, wNil, wRef, wNext, wDrop, wAnd, wOr, wNot, wAndV, wOrV, wNotV, wIfE, wNeg, intC, absD, maxD, minD, lenD, wLenM, atDd, atD, mutOf, setMut, agR, agDs, env0, parm, bodyEnds, bodyEndsF, gN, wAsg, exists_eq_left, exists_eq_left', exists_eq, exists_eq', Option.some.injEq, D.int.injEq, Sl.bor.injEq, Sl.own.injEq, Sl.val.injEq, D.bl.injEq, D.str.injEq, D.lst.injEq, D.tup.injEq, and_true, true_and, exists_const, exists_and_left, exists_and_right, List.getElem?_cons_zero, List.getElem?_cons_succ, List.set_cons_zero, List.set_cons_succ, List.length_cons, List.length_nil, decide_eq_true_eq, if_true, if_false, ite_true, ite_false, List.replicate, List.append_nil, List.nil_append, List.cons_append, List.append_eq, atI0, atI1, atI2, ixN0, ixN1, ixN2, ix30, ix31, ix32, Nat.zero_add, Nat.reduceAdd, Nat.reduceSub, Nat.reduceLeDiff, Option.some.injEq, reduceCtorEq, if_pos, List.replicate_succ, List.replicate_zero, wCall, wCallF, wCon, wConF, wLRg1, agR, agDs, wMkE, wExtend, wAppend, wDic, wDNew, wVals, wValE, Ag.vl.injEq, List.cons.injEq, wFor_eq, wIn, wEnum, wLc_eq, wRange, wYes, gTupD, gConsD, gNilD, List.map_cons, List.map_nil, wipeE, wSplit, wSm0, wChain, wSlF, wPart, wNoP, wWhile_eq, wAug, wPar, wPar3, wPopAt, wRaise, wSetD, wSetK, wLenB, wNinB, wTru, wTruB, wVarB, wFld, wSetA, wMake, wMeth, wTold, wParFF, wParVF, wJoin, wLenSet, isN, isNoneD, wInM, Sl.box.injEq, D.dic.injEq, D.ins.injEq, wDun, wInI, wLenI, wBinI, id, wFstr, wJs, wFmt, wInsert, wSetDI, cxK, tupC, listF, restE, List.getD, Option.getD]
          refine ⟨(loreLines (L.more (s, t))).map ln, .inl ?_, part_b (part_lore ok').1 (by have := lore_len ok'; omega), txt (loreLines (L.more (s, t))), rfl, hT', ?_⟩
          · rw [← lines_more (p := (s, t)) (n := 1 + rv.length) (by rw [hrl]), emp_app, K03.lnR]
            simp [List.map_take, List.map_drop]
          · rw [hR']
            exact fun rv' hp' ha' => k rv' hp' ha'
    · rw [if_neg h2] at k
      exact oneOf_no (eq_false_of_ne_true h2) k
  · rw [if_neg h1] at k
    exact oneOf_no (eq_false_of_ne_true h1) k
theorem ok_without_rivals (B : Blt mg) (hS : SysB base) (BC : BookC K C) (T : DefTM K C "without_rivals" "Book.without_rivals" S_Book_without_rivals ["self", "one", "other"]) (R : ∀ (i : Nat) x, errNames[i]? = some x → RsE P w K mg base 1 x (cls i)) (MBook_are_rivals : DefM P w K mg base τ false 4 C "are_rivals" 3 none (cAre C (cls 2)))
    (DBook : DefI' P w K mg base τ false 7 "Book" C 2 (cInitBook (cls 1))) : DefM P w K mg base τ false 9 C "without_rivals" 3 none (cWithoutR C (cls 2) (cls 4)) := by
  refine def_M (k := 8) T sc_Book_without_rivals rfl (by decide) fun f cdv A outer s H E c hr hG => ⟨_, (s_cons (s_if (t_not (t_val (a_meth MBook_are_rivals (a_var (pv 0)) hr (by omega) calm0 (takes_of rfl rfl rfl rfl) (aa_cons (a_var (pv 1)) (aa_cons (a_var (pv 2)) aa_nil))) (fun _ h => pt_val h)))
      (s_one (s_raise (R 4 _ rfl) rfl (takes_of rfl rfl rfl rfl) hr (by omega) rfl (aa_cons (a_tup (aa_cons (a_var (pv 1)) (aa_cons (a_var (pv 2)) aa_nil))) aa_nil)))
      s_nil)
      (s_cons (s_set (i := 3) sc_Book_without_rivals.nd rfl (by first | exact .inl rfl | exact .inr rfl) (a_tup (aa_cons (a_fstr (AJ.cons a_str (AJ.cons (a_fmt (a_var (pv 1))) (AJ.cons a_str (AJ.cons (a_fmt (a_var (pv 2))) AJ.nil))))) (aa_cons (a_fstr (AJ.cons a_str (AJ.cons (a_fmt (a_var (pv 2))) (AJ.cons a_str (AJ.cons (a_fmt (a_var (pv 1))) AJ.nil))))) aa_nil))))
      (s_one (s_ret (a_make DBook hr (by omega) calm0 rfl (takes_of rfl rfl rfl rfl) (aa_cons (a_join a_str (a_fv (a_lc (own := [("line", 4)]) rfl sc_Book_without_rivals.nd (i_in (a_fv (a_split (a_fld (a_var (pv 0))) a_str))) (blkOk_by (N := ["self", "one", "other", "told", "line"]) (sc := defScope S_Book_without_rivals) (by decide +kernel)) (fun _ _ _ _ _ => (pg_name (i := 4) sc_Book_without_rivals.nd rfl (Or.inl rfl))) (fun _ => (GOkW.v (gokw_name (by decide)))) (fun _ _ _ _ _ _ => (ts_one (t_ninP hS (units65 hr) (a_var (pv 4)) (a_var (pv 3))))) (fun _ _ _ _ _ _ => (a_var (pv 4)))))) aa_nil)))))), ?_⟩
  rintro a ds m Qd Xd hl hm ⟨L, rv, x, y, rfl, ok, hpr, hx, hy, k⟩
  obtain rfl := hm rfl
  have okb := ok.okr hpr
  have BA : ∀ f ∈ bkF, Cls K C ∧ NoAttr K C f := fun f hf => ⟨BC.cls, BC.na f hf⟩
  simp only [wSeqR, wIf, wB, wOp, wOpF, gtD, ltD, geD, leD, intD0, DL.intD, subD, mulD, fdivD, modD, powD, addD, catD, wIxM, wC, wSet, wSetF, wSetM, wRet, wRetF, wRetN, wVar, wFv, wLst, wTup, wCB, wCBF, wCons, wNil, wRef, wNext, wDrop, wAnd, wOr, wNot, wAndV, wOrV, wNotV, wIfE, wNeg, intC, absD, maxD, minD, lenD, wLenM, atDd, atD, mutOf, setMut, agR, agDs, env0, parm, bodyEnds, bodyEndsF, gN, wAsg, exists_eq_left, exists_eq_left', exists_eq, exists_eq', Option.some.injEq, D.int.injEq, Sl.bor.injEq, Sl.own.injEq, Sl.val.injEq, D.bl.injEq, D.str.injEq, D.lst.injEq, D.tup.injEq, and_true, true_and, exists_const, exists_and_left, exists_and_right, List.getElem?_cons_zero, List.getElem?_cons_succ, List.set_cons_zero, List.set_cons_succ, List.length_cons, List.length_nil, decide_eq_true_eq, if_true, if_false, ite_true, ite_false, List.replicate, List.append_nil, List.nil_append, List.cons_append, List.append_eq, atI0, atI1, atI2, ixN0, ixN1, ixN2, ix30, ix31, ix32, Nat.zero_add, Nat.reduceAdd, Nat.reduceSub, Nat.reduceLeDiff, Option.some.injEq, reduceCtorEq, if_pos, List.replicate_succ, List.replicate_zero, wCall, wCallF, wCon, wConF, wLRg1, agR, agDs, wMkE, wExtend, wAppend, wDic, wDNew, wVals, wValE, Ag.vl.injEq, List.cons.injEq, wFor_eq, wIn, wEnum, wLc_eq, wRange, wYes, gTupD, gConsD, gNilD, List.map_cons, List.map_nil, wipeE, wSplit, wSm0, wChain, wSlF, wPart, wNoP, wWhile_eq, wAug, wPar, wPar3, wPopAt, wRaise, wSetD, wSetK, wLenB, wNinB, wTru, wTruB, wVarB, wFld, wSetA, wMake, wMeth, wTold, wParFF, wParVF, wJoin, wLenSet, isN, isNoneD, wInM, Sl.box.injEq, D.dic.injEq, D.ins.injEq, wDun, wInI, wLenI, wBinI, id, wFstr, wJs, wFmt, wInsert, wSetDI, cxK, tupC, listF, restE, List.getD, Option.getD, dBook]
  refine ⟨_, _, ⟨rfl, rfl⟩, rfl, bkOf L, rv, x, y, rfl, okb, hx, hy, ?_⟩
  have k := oneOf_mem k
  show OneOf L.cl x _ _
  by_cases h1 : memS L.cl x = true
  · rw [if_pos h1] at k
    obtain ⟨s, rfl, hs, k⟩ := k
    refine oneOf_yes hs ?_
    have k := oneOf_mem k
    show OneOf L.cl y _ _
    by_cases h2 : memS L.cl y = true
    · rw [if_pos h2] at k
      obtain ⟨t, rfl, ht, k⟩ := k
      refine oneOf_yes ht ⟨_, rfl, ?_⟩
      rw [arR_lore hpr]
      by_cases h3 : arR L.rv s t = true
      · rw [if_neg (by simp [h3])] at k
        rw [if_neg (by simp [h3])]
        have ok' := lore_less (s := s) (t := t) ok
        obtain ⟨hT, hR⟩ := lore_text ok
        obtain ⟨hT', hR'⟩ := lore_text ok'
        have ls := (ok.wd s hs).le
        have lt := (ok.wd t ht).le
        have r28 := ok.rv28
        have h41 := lore_len ok
        have hsp := lore_split ok
        rw [show nl = Str.ofString "\n" from rfl] at hsp
        obtain ⟨b1, b2, b3, b4, b5, b6⟩ := riv_len ls lt
        obtain ⟨c1, c2, c3, c4, c5, c6⟩ := riv_len lt ls
        (try simp only [restE, List.getD, Option.getD, List.set_cons_zero, List.set_cons_succ, List.getElem?_cons_zero, List.getElem?_cons_succ])
        rw [Rest_cons]
        simp only [wSeqR, wIf, wB, wOp, wOpF, gtD, ltD, geD, leD, intD0, DL.intD, subD, mulD, fdivD, modD, powD, addD, catD, wIxM, wC, wSet, wSetF, wSetM, wRet, wRetF, wRetN, wVar, wFv, wLst, wTup, wCB, wCBF, wCons, wNil, wRef, wNext, wDrop, wAnd, wOr, wNot, wAndV, wOrV, wNotV, wIfE, wNeg, intC, absD, maxD, minD, lenD, wLenM, atDd, atD, mutOf, setMut, agR, agDs, env0, parm, bodyEnds, bodyEndsF, gN, wAsg, exists_eq_left, exists_eq_left', exists_eq, exists_eq', Option.some.injEq, D.int.injEq, Sl.bor.injEq, Sl.own.injEq, Sl.val.injEq, D.bl.injEq, D.str.injEq, D.lst.injEq, D.tup.injEq, and_true, true_and, exists_const, exists_and_left, exists_and_right, List.getElem?_cons_zero, List.getElem?_cons_succ, List.set_cons_zero, List.set_cons_succ, List.length_cons, List.length_nil, decide_eq_true_eq, if_true, if_false, ite_true, ite_false, List.replicate, List.append_nil, List.nil_append, List.cons_append, List.append_eq, atI0, atI1, atI2, ixN0, ixN1, ixN2, ix30, ix31, ix32, Nat.zero_add, Nat.reduceAdd, Nat.reduceSub, Nat.reduceLeDiff, Option.some.injEq, reduceCtorEq, if_pos, List.replicate_succ, List.replicate_zero, wCall, wCallF, wCon, wConF, wLRg1, agR, agDs, wMkE, wExtend, wAppend, wDic, wDNew, wVals, wValE, Ag.vl.injEq, List.cons.injEq, wFor_eq, wIn, wEnum, wLc_eq, wRange, wYes, gTupD, gConsD, gNilD, List.map_cons, List.map_nil, wipeE, wSplit, wSm0, wChain, wSlF, wPart, wNoP, wWhile_eq, wAug, wPar, wPar3, wPopAt, wRaise, wSetD, wSetK, wLenB, wNinB, wTru, wTruB, wVarB, wFld, wSetA, wMake, wMeth, wTold, wParFF, wParVF, wJoin, wLenSet, isN, isNoneD, wInM, Sl.box.injEq, D.dic.injEq, D.ins.injEq, wDun, wInI, wLenI, wBinI, id, wFstr, wJs, wFmt, wInsert, wSetDI, cxK, tupC, listF, restE, List.getD, Option.getD]
        refine ⟨b1, .inl ⟨b2, b3, b4, .inl ⟨b5, b6, c1, .inl ⟨c2, c3, c4, .inl ⟨c5, c6, sz, ?_⟩⟩⟩⟩⟩
        (try simp only [restE, List.getD, Option.getD, List.set_cons_zero, List.set_cons_succ, List.getElem?_cons_zero, List.getElem?_cons_succ])
        rw [Rest_cons]
        simp only [wSeqR, wIf, wB, wOp, wOpF, gtD, ltD, geD, leD, intD0, DL.intD, subD, mulD, fdivD, modD, powD, addD, catD, wIxM, wC, wSet, wSetF, wSetM, wRet, wRetF, wRetN, wVar, wFv, wLst, wTup, wCB, wCBF, wCons, wNil, wRef, wNext, wDrop, wAnd, wOr, wNot, wAndV, wOrV, wNotV, wIfE, wNeg, intC, absD, maxD, minD, lenD, wLenM, atDd, atD, mutOf, setMut, agR, agDs, env0, parm, bodyEnds, bodyEndsF, gN, wAsg, exists_eq_left, exists_eq_left', exists_eq, exists_eq', Option.some.injEq, D.int.injEq, Sl.bor.injEq, Sl.own.injEq, Sl.val.injEq, D.bl.injEq, D.str.injEq, D.lst.injEq, D.tup.injEq, and_true, true_and, exists_const, exists_and_left, exists_and_right, List.getElem?_cons_zero, List.getElem?_cons_succ, List.set_cons_zero, List.set_cons_succ, List.length_cons, List.length_nil, decide_eq_true_eq, if_true, if_false, ite_true, ite_false, List.replicate, List.append_nil, List.nil_append, List.cons_append, List.append_eq, atI0, atI1, atI2, ixN0, ixN1, ixN2, ix30, ix31, ix32, Nat.zero_add, Nat.reduceAdd, Nat.reduceSub, Nat.reduceLeDiff, Option.some.injEq, reduceCtorEq, if_pos, List.replicate_succ, List.replicate_zero, wCall, wCallF, wCon, wConF, wLRg1, agR, agDs, wMkE, wExtend, wAppend, wDic, wDNew, wVals, wValE, Ag.vl.injEq, List.cons.injEq, wFor_eq, wIn, wEnum, wLc_eq, wRange, wYes, gTupD, gConsD, gNilD, List.map_cons, List.map_nil, wipeE, wSplit, wSm0, wChain, wSlF, wPart, wNoP, wWhile_eq, wAug, wPar, wPar3, wPopAt, wRaise, wSetD, wSetK, wLenB, wNinB, wTru, wTruB, wVarB, wFld, wSetA, wMake, wMeth, wTold, wParFF, wParVF, wJoin, wLenSet, isN, isNoneD, wInM, Sl.box.injEq, D.dic.injEq, D.ins.injEq, wDun, wInI, wLenI, wBinI, id, wFstr, wJs, wFmt, wInsert, wSetDI, cxK, tupC, listF, restE, List.getD, Option.getD]
        rw [emp_app, K03.lnR, K03.lnR]
        refine ⟨C, _, _, ⟨rfl, rfl, rfl⟩, BA _ (by decide), _, rfl, ⟨_, rfl⟩, txt (loreLines L), rfl, by decide, sl_big (by have := hT.le; omega), rfl, ?_⟩
        rw [hsp]
        have hln : ∀ l ∈ (loreLines L).map ln, PyData.strOk l = true := fun l hl => by
          obtain ⟨ws, hw, rfl⟩ := List.mem_map.mp hl
          exact ((part_lore ok).1 ws hw).ln.1
        have hok2 : ∀ {a b : Str}, Wd a → Wd b → PyData.strOk (ln (rivalLine (a, b))) = true := fun ha hb => (LineB.of (wd_of (by decide +kernel) : Wd "rivals") (wds_cons ha (wds_cons hb wds_nil)) (by simp)).ln.1
        refine lc_fm2 ((loreLines L).map ln) D.str (fun l => !(decide (l = ln (rivalLine (s, t))) || decide (l = ln (rivalLine (t, s))))) D.str rfl rfl (sl_big (by rw [List.length_map]; omega)) (fun l hl acc G hz hG => ?_) ?_
        · simp only [wSeqR, wIf, wB, wOp, wOpF, gtD, ltD, geD, leD, intD0, DL.intD, subD, mulD, fdivD, modD, powD, addD, catD, wIxM, wC, wSet, wSetF, wSetM, wRet, wRetF, wRetN, wVar, wFv, wLst, wTup, wCB, wCBF, wCons, wNil, wRef, wNext, wDrop, wAnd, wOr, wNot, wAndV, wOrV, wNotV, wIfE, wNeg, intC, absD, maxD, minD, lenD, wLenM, atDd, atD, mutOf, setMut, agR, agDs, env0, parm, bodyEnds, bodyEndsF, gN, wAsg, exists_eq_left, exists_eq_left', exists_eq, exists_eq', Option.some.injEq, D.int.injEq, Sl.bor.injEq, Sl.own.injEq, Sl.val.injEq, D.bl.injEq, D.str.injEq, D.lst.injEq, D.tup.injEq, and_true, true_and, exists_const, exists_and_left, exists_and_right, List.getElem?_cons_zero, List.getElem?_cons_succ, List.set_cons_zero, List.set_cons_succ, List.length_cons, List.length_nil, decide_eq_true_eq, if_true, if_false, ite_true, ite_false, List.replicate, List.append_nil, List.nil_append, List.cons_append, List.append_eq, atI0, atI1, atI2, ixN0, ixN1, ixN2, ix30, ix31, ix32, Nat.zero_add, Nat.reduceAdd, Nat.reduceSub, Nat.reduceLeDiff, Option.some.injEq, reduceCtorEq, if_pos, List.replicate_succ, List.replicate_zero, wCall, wCallF, wCon, wConF, wLRg1, agR, agDs, wMkE, wExtend, wAppend, wDic, wDNew, wVals, wValE, Ag.vl.injEq, List.cons.injEq, wFor_eq, wIn, wEnum, wLc_eq, wRange, wYes, gTupD, gConsD, gNilD, List.map_cons, List.map_nil, wipeE, wSplit, wSm0, wChain, wSlF, wPart, wNoP, wWhile_eq, wAug, wPar, wPar3, wPopAt, wRaise, wSetD, wSetK, wLenB, wNinB, wTru, wTruB, wVarB, wFld, wSetA, wMake, wMeth, wTold, wParFF, wParVF, wJoin, wLenSet, isN, isNoneD, wInM, Sl.box.injEq, D.dic.injEq, D.ins.injEq, wDun, wInI, wLenI, wBinI, id, wFstr, wJs, wFmt, wInsert, wSetDI, cxK, tupC, listF, restE, List.getD, Option.getD]
          refine inP_strs (neg := true) (ms := [ln (rivalLine (s, t)), ln (rivalLine (t, s))]) (.inr rfl) (hln l hl) (fun m hm => ?_) ⟨_, rfl, ?_⟩
          · simp only [List.mem_cons, List.not_mem_nil, or_false] at hm
            rcases hm with rfl | rfl
            · exact hok2 (ok.wd s hs) (ok.wd t ht)
            · exact hok2 (ok.wd t ht) (ok.wd s hs)
          · rw [show ([ln (rivalLine (s, t)), ln (rivalLine (t, s))].contains l) = (decide (l = ln (rivalLine (s, t))) || decide (l = ln (rivalLine (t, s)))) by simp [List.contains_cons]]
            by_cases hc : (!(decide (l = ln (rivalLine (s, t))) || decide (l = ln (rivalLine (t, s))))) = true
            · rw [if_pos hc] at hG
              simp only [if_true]
              rw [if_pos hc]
              exact ⟨hz, hG⟩
            · rw [if_neg hc] at hG
              simp only [if_true]
              rw [if_neg hc]
              exact hG
        · rw [lines_less ok (ok.wd s hs) (ok.wd t ht)]
          refine ⟨(loreLines (L.less s t)).map ln, .inl rfl, part_b (part_lore ok').1 (by have := lore_len ok'; omega), txt (loreLines (L.less s t)), rfl, hT', ?_⟩
          rw [hR']
          exact fun rv' hp' ha' => k rv' hp' ha'
      · rw [if_pos (eq_false_of_ne_true h3)] at k
        rw [if_pos (by simp [h3])]
        exact ⟨sz, k⟩
    · rw [if_neg h2] at k
      exact oneOf_no (eq_false_of_ne_true h2) k
  · rw [if_neg h1] at k
    exact oneOf_no (eq_false_of_ne_true h1) k
end
end K05
set_option Elab.async false
set_option linter.all false
set_option maxRecDepth 100000
set_option maxHeartbeats 4000000
namespace K05
open PySem PySem.Spec PyProof.Rows L2 DL WB LamX
abbrev S_law_pot : Stmt := top 21
theorem sc_law_pot : FnScope ["script", "k", "cell", "own", "small"] ["script", "k"] (defScope S_law_pot) := ⟨rfl, rfl, rfl, by decide +kernel, rfl, by decide +kernel, by decide +kernel⟩
abbrev S_law_take : Stmt := top 22
theorem sc_law_take : FnScope ["pot", "upto", "digit", "prime", "blend"] ["pot", "upto"] (defScope S_law_take) := ⟨rfl, rfl, rfl, by decide +kernel, rfl, by decide +kernel, by decide +kernel⟩
abbrev S_law_of : Stmt := top 23
theorem sc_law_of : FnScope ["pot", "some"] ["pot", "some"] (defScope S_law_of) := ⟨rfl, rfl, rfl, by decide +kernel, rfl, by decide +kernel, by decide +kernel⟩
abbrev S_law_some : Stmt := top 24
theorem sc_law_some : FnScope ["pot", "pool", "amount", "left", "found", "lap"] ["pot", "pool", "amount"] (defScope S_law_some) := ⟨rfl, rfl, rfl, by decide +kernel, rfl, by decide +kernel, by decide +kernel⟩
abbrev S_law_places : Stmt := top 25
theorem sc_law_places : FnScope ["script", "most"] ["script", "most"] (defScope S_law_places) := ⟨rfl, rfl, rfl, by decide +kernel, rfl, by decide +kernel, by decide +kernel⟩
abbrev S_law_names : Stmt := top 28
theorem sc_law_names : FnScope ["pot", "amount", "pool"] ["pot", "amount"] (defScope S_law_names) := ⟨rfl, rfl, rfl, by decide +kernel, rfl, by decide +kernel, by decide +kernel⟩
abbrev S_law_pairs : Stmt := top 29
theorem sc_law_pairs : FnScope ["names", "found", "at", "one", "other"] ["names"] (defScope S_law_pairs) := ⟨rfl, rfl, rfl, by decide +kernel, rfl, by decide +kernel, by decide +kernel⟩
abbrev S_law_lot_of : Stmt := top 30
theorem sc_law_lot_of : FnScope ["pot", "names", "way", "name"] ["pot", "names"] (defScope S_law_lot_of) := ⟨rfl, rfl, rfl, by decide +kernel, rfl, by decide +kernel, by decide +kernel⟩
abbrev S_law_lore : Stmt := top 31
theorem sc_law_lore : FnScope ["pot", "few", "most", "kinds", "clients", "rivals", "thick", "one", "other", "rows", "name"] ["pot", "few", "most", "kinds"] (defScope S_law_lore) := ⟨rfl, rfl, rfl, by decide +kernel, rfl, by decide +kernel, by decide +kernel⟩
abbrev S_law_lines : Stmt := top 32
theorem sc_law_lines : FnScope ["lore", "found", "name", "looks", "writes", "one", "other"] ["lore"] (defScope S_law_lines) := ⟨rfl, rfl, rfl, by decide +kernel, rfl, by decide +kernel, by decide +kernel⟩
abbrev S_law_text : Stmt := top 33
theorem sc_law_text : FnScope ["lore"] ["lore"] (defScope S_law_text) := ⟨rfl, rfl, rfl, by decide +kernel, rfl, by decide +kernel, by decide +kernel⟩
abbrev S_law_made : Stmt := top 34
theorem sc_law_made : FnScope ["lore"] ["lore"] (defScope S_law_made) := ⟨rfl, rfl, rfl, by decide +kernel, rfl, by decide +kernel, by decide +kernel⟩
abbrev S_law_are_rivals : Stmt := top 35
theorem sc_law_are_rivals : FnScope ["lore", "one", "other"] ["lore", "one", "other"] (defScope S_law_are_rivals) := ⟨rfl, rfl, rfl, by decide +kernel, rfl, by decide +kernel, by decide +kernel⟩
abbrev S_law_is_in : Stmt := top 37
theorem sc_law_is_in : FnScope ["lore", "value"] ["lore", "value"] (defScope S_law_is_in) := ⟨rfl, rfl, rfl, by decide +kernel, rfl, by decide +kernel, by decide +kernel⟩
def pool : List Str := ["oil", "bank", "mill", "rail", "a", "b", "clients", "rivals", "kind", "looks", "pair", "house", "zzzzzzzz", "writes"]
def kpool : List Str := ["hand", "clerk", "kind", "looks", "oil", "a"]
def cSome : Con := fun ds m Qd _ => ∃ (α : Type) (f : α → D) (xs : List α) (n : Int) (k : Nat), ds = [.non, .lst (xs.map f), .int k] ∧ Pot n m ∧ n + k < 2 ^ 40 ∧ k ≤ xs.length ∧ xs.length ≤ 10000 ∧ ∀ (ys zs : List α) m', (ys ++ zs).Perm xs → ys.length = k → Pot (n + k) m' → Qd (.lst (ys.map f)) m'
def cNames : Con := fun ds m Qd _ => ∃ (n : Int) (k : Nat), ds = [.non, .int k] ∧ Pot n m ∧ n + k < 2 ^ 40 ∧ k ≤ 14 ∧ ∀ (ys : List Str) m', ys.Nodup → (∀ y ∈ ys, y ∈ pool) → ys.length = k → Pot (n + k) m' → Qd (dLs ys) m'
def cPairs : Con := fun ds _ Qd _ => ∃ xs : List Str, ds = [dLs xs] ∧ xs.length ≤ 100 ∧ Qd (.lst ((WB.pairsOf xs).map D2)) []
def cLotOf : Con := fun ds m Qd _ => ∃ (n : Int) (xs : List Str), ds = [.non, dLs xs] ∧ Pot n m ∧ n + 20 < 2 ^ 40 ∧ xs.Nodup ∧ xs.length ≤ 14 ∧ ∀ (ys : List Str) m', ys = inSeq xs ys → Pot (n + 15) m' → Qd (dLs ys) m'
def cLore : Con := fun ds m Qd _ => ∃ (n : Int) (few most kinds : Nat), ds = [.non, .int few, .int most, .int kinds] ∧ Pot n m ∧ n + 500 < 2 ^ 40 ∧ 2 ≤ few ∧ few ≤ most ∧ most ≤ 8 ∧ 1 ≤ kinds ∧ kinds ≤ 4 ∧ ∀ (L : Lore) m', LoreOk L → (∀ c ∈ L.cl, c ∈ pool) → (∀ k ∈ L.ks, k.1 ∈ kpool) → Pot (n + 400) m' → Qd (dLore L) m'
def cLines : Con := fun ds _ Qd _ => ∃ L : Lore, ds = [dLore L] ∧ LoreOk L ∧ Qd (.lst ((loreLines L).map fun ws => .str (ln ws))) []
def cText : Con := fun ds _ Qd _ => ∃ L : Lore, ds = [dLore L] ∧ LoreOk L ∧ Qd (.str (txt (loreLines L))) []
def cMade (C : Addr) : Con := fun ds _ Qd _ => ∃ L : Lore, ds = [dLore L] ∧ LoreOk L ∧ ∀ rv : List PStr, rv.Perm (L.rv.map (seqP L.cl)) → Asc rv → Qd (dBook C (bkOf L) rv) []
def cAreR : Con := fun ds _ Qd _ => ∃ (L : Lore) (s t : Str), ds = [dLore L, .str s, .str t] ∧ LoreOk L ∧ PyData.strOk s = true ∧ PyData.strOk t = true ∧ Qd (.bl (arR L.rv s t)) []
def cIsIn : Con := fun ds _ Qd _ => ∃ (L : Lore) (x : D), ds = [dLore L, x] ∧ LoreOk L ∧ OddV x ∧ Qd (.bl (memS L.cl x)) []
def cKindNames : ConF := fun ds _ Qd _ => ∃ (L : Lore), ds = [dLore L] ∧ LoreOk L ∧ Qd ((L.ks.map (·.1)).map D.str) []
section
variable {P : Program} {w : World} {K : PySem.W.Frag} {mg : Str → Option Value} {base : Heap} {τ : TBL} {cls : Nat → Addr}
theorem ok_take (B : Blt mg) (T : DefT K mg "_law_take" S_law_take ["pot", "upto"]) : DefE P w K mg base τ true 1 "_law_take" ["pot", "upto"] 2 (some 0) cTake := by
  refine def_E (k := 0) T sc_law_take rfl (by decide) fun f cdv A outer s H E c hr hG => ⟨_, (s_cons (s_if (t_gt (a_ixM (pv 0) a_int (fun _ _ => rfl)) a_int)
      (s_cons (s_set (i := 2) sc_law_take.nd rfl (by first | exact .inl rfl | exact .inr rfl) (a_mod (a_ct call_int1 calld_int rfl B.int (by decide +kernel) (aa_cons (a_ixM (pv 0) a_int (fun _ _ => rfl)) aa_nil)) (a_var (pv 1))))
      (s_cons (s_setM (pv 0) a_int (a_fdiv (a_ixM (pv 0) a_int (fun _ _ => rfl)) (a_var (pv 1))) (fun _ _ h1 h2 => ps_asg h1 (pg_sub (pv 0) h2 set_list)))
      (s_one (s_ret (a_var (pv 2))))))
      s_nil)
      (s_cons (s_setM (pv 0) a_int (a_add (a_ixM (pv 0) a_int (fun _ _ => rfl)) a_int) (fun _ _ h1 h2 => ps_asg h1 (pg_sub (pv 0) h2 set_list)))
      (s_cons (s_set (i := 3) sc_law_take.nd rfl (by first | exact .inl rfl | exact .inr rfl) (a_ix (units1 hr) (a_fv (a_lst (aa_cons a_int (aa_cons a_int (aa_cons a_int (aa_cons a_int (aa_cons a_int aa_nil))))))) (a_mod (a_ct call_int1 calld_int rfl B.int (by decide +kernel) (aa_cons (a_ixM (pv 0) a_int (fun _ _ => rfl)) aa_nil)) a_int) (fun _ _ => rfl)))
      (s_cons (s_set (i := 4) sc_law_take.nd rfl (by first | exact .inl rfl | exact .inr rfl) (a_mod (a_ct call_int1 calld_int rfl B.int (by decide +kernel) (aa_cons (a_pow (a_ct call_int1 calld_int rfl B.int (by decide +kernel) (aa_cons (a_add (a_add (a_ixM (pv 0) a_int (fun _ _ => rfl)) (a_mul (a_mul a_int (a_ixM (pv 0) a_int (fun _ _ => rfl))) (a_ixM (pv 0) a_int (fun _ _ => rfl)))) a_int) aa_nil)) a_int) aa_nil)) (a_var (pv 3))))
      (s_one (s_ret (a_mod (a_ct call_int1 calld_int rfl B.int (by decide +kernel) (aa_cons (a_fdiv (a_mul (a_var (pv 4)) (a_add (a_mod (a_ct call_int1 calld_int rfl B.int (by decide +kernel) (aa_cons (a_var (pv 4)) aa_nil)) a_int) (a_mul a_int (a_ixM (pv 0) a_int (fun _ _ => rfl))))) a_int) aa_nil)) (a_var (pv 1))))))))), ?_⟩
  rintro a ds m Qd Xd hl hm ⟨n, upto, rfl, ⟨x, y, z, rfl, hx0, hx1, hy0, hy1, hz0, hz1⟩, hn, hu0, hu1, k⟩
  simp only [wSeqR, Rest_cons, wIf, wB, wOp, wOpF, gtD, ltD, geD, leD, intD0, DL.intD, subD, mulD, fdivD, modD, powD, addD, catD, wIxM, wC, wSet, wSetF, wSetM, wRet, wRetF, wRetN, wVar, wFv, wLst, wTup, wCB, wCBF, wCons, wNil, wRef, wNext, wDrop, wAnd, wOr, wNot, wAndV, wOrV, wNotV, wIfE, wNeg, intC, absD, maxD, minD, lenD, wLenM, atDd, atD, mutOf, setMut, agR, agDs, env0, parm, bodyEnds, bodyEndsF, gN, wAsg, exists_eq_left, exists_eq_left', exists_eq, exists_eq', Option.some.injEq, D.int.injEq, Sl.bor.injEq, Sl.own.injEq, Sl.val.injEq, D.bl.injEq, D.str.injEq, D.lst.injEq, D.tup.injEq, and_true, true_and, exists_const, exists_and_left, exists_and_right, List.getElem?_cons_zero, List.getElem?_cons_succ, List.set_cons_zero, List.set_cons_succ, List.length_cons, List.length_nil, decide_eq_true_eq, if_true, if_false, ite_true, ite_false, List.replicate, List.append_nil, List.nil_append, List.cons_append, List.append_eq, atI0, atI1, atI2, ixN0, ixN1, ixN2, ix30, ix31, ix32, Nat.zero_add, Nat.reduceAdd, Nat.reduceSub, Nat.reduceLeDiff, Option.some.injEq, reduceCtorEq, if_pos, List.replicate_succ, List.replicate_zero, wCall, wCallF, wCon, wConF, wLRg1, agR, agDs, wMkE, wExtend, wAppend, wDic, wDNew, wVals, wValE, Ag.vl.injEq, List.cons.injEq, wFor_eq, wIn, wEnum, wLc_eq, wRange, wYes, gTupD, gConsD, gNilD, List.map_cons, List.map_nil, wipeE, wSplit, wSm0, wChain, wSlF, wPart, wNoP, wWhile_eq, wAug, wPar, wPar3, wPopAt, wRaise, wSetD, wSetK, wLenB, wNinB, wTru, wTruB, wVarB, wFld, wSetA, wMake, wMeth, wTold, wParFF, wParVF, wJoin, wLenSet, isN, isNoneD, wInM, Sl.box.injEq, D.dic.injEq, D.ins.injEq, wDun, wInI, wLenI, wBinI, id, wFstr, wJs, wFmt, wInsert, wSetDI]
  split
  · rename_i h
    refine ⟨by omega, divW 30 (by omega) (by omega), k _ _ (Int.emod_nonneg _ (by omega)) (Int.emod_lt_of_pos _ (by omega)) ⟨_, _, _, rfl, Int.ediv_nonneg (by omega) (by omega), ?_, hy0, hy1, hz0, by omega⟩⟩
    exact Int.lt_of_le_of_lt (Int.ediv_le_self _ hx0) hx1
  · rename_i h
    refine ⟨by rw [sizeLine_eq]; decide, by decide, ?_⟩
    have q0 : 0 ≤ (z + 1) % 5 := Int.emod_nonneg _ (by decide)
    have q1 : (z + 1) % 5 < 5 := Int.emod_lt_of_pos _ (by decide)
    obtain ⟨d, e1, e2, _⟩ := atI_get (l := [D.int 2147483647, D.int 2147483629, D.int 2147483587, D.int 2147483579, D.int 2147483563]) q0 (by simpa using q1)
    obtain ⟨p, rfl, p0, p1⟩ : ∃ p, d = D.int p ∧ 0 < p ∧ p < 2 ^ 31 := by
      simp only [List.mem_cons, List.not_mem_nil, or_false] at e2
      rcases e2 with rfl | rfl | rfl | rfl | rfl <;> exact ⟨_, rfl, by decide, by decide⟩
    refine ⟨_, e1, ?_⟩
    have z0 : 0 ≤ z + 1 := by omega
    have z1 : z + 1 ≤ 2 ^ 40 := by omega
    obtain ⟨b0, b1⟩ := mul_bd (a := 95321 * (z + 1)) (b := z + 1) (A := 2 ^ 60) (B := 2 ^ 40) (by omega) (by omega) z0 z1
    refine ⟨mulW 20 41 (by decide) (by decide) (by omega) (by omega), mulW 61 41 (by omega) (by omega) (by omega) (by omega), ?_⟩
    refine ⟨powG 102 3 (by omega) (by omega), ?_⟩
    simp only [wSeqR, Rest_cons, wIf, wB, wOp, wOpF, gtD, ltD, geD, leD, intD0, DL.intD, subD, mulD, fdivD, modD, powD, addD, catD, wIxM, wC, wSet, wSetF, wSetM, wRet, wRetF, wRetN, wVar, wFv, wLst, wTup, wCB, wCBF, wCons, wNil, wRef, wNext, wDrop, wAnd, wOr, wNot, wAndV, wOrV, wNotV, wIfE, wNeg, intC, absD, maxD, minD, lenD, wLenM, atDd, atD, mutOf, setMut, agR, agDs, env0, parm, bodyEnds, bodyEndsF, gN, wAsg, exists_eq_left, exists_eq_left', exists_eq, exists_eq', Option.some.injEq, D.int.injEq, Sl.bor.injEq, Sl.own.injEq, Sl.val.injEq, D.bl.injEq, D.str.injEq, D.lst.injEq, D.tup.injEq, and_true, true_and, exists_const, exists_and_left, exists_and_right, List.getElem?_cons_zero, List.getElem?_cons_succ, List.set_cons_zero, List.set_cons_succ, List.length_cons, List.length_nil, decide_eq_true_eq, if_true, if_false, ite_true, ite_false, List.replicate, List.append_nil, List.nil_append, List.cons_append, List.append_eq, atI0, atI1, atI2, ixN0, ixN1, ixN2, ix30, ix31, ix32, Nat.zero_add, Nat.reduceAdd, Nat.reduceSub, Nat.reduceLeDiff, Option.some.injEq, reduceCtorEq, if_pos, List.replicate_succ, List.replicate_zero, wCall, wCallF, wCon, wConF, wLRg1, agR, agDs, wMkE, wExtend, wAppend, wDic, wDNew, wVals, wValE, Ag.vl.injEq, List.cons.injEq, wFor_eq, wIn, wEnum, wLc_eq, wRange, wYes, gTupD, gConsD, gNilD, List.map_cons, List.map_nil, wipeE, wSplit, wSm0, wChain, wSlF, wPart, wNoP, wWhile_eq, wAug, wPar, wPar3, wPopAt, wRaise, wSetD, wSetK, wLenB, wNinB, wTru, wTruB, wVarB, wFld, wSetA, wMake, wMeth, wTold, wParFF, wParVF, wJoin, wLenSet, isN, isNoneD, wInM, Sl.box.injEq, D.dic.injEq, D.ins.injEq, wDun, wInI, wLenI, wBinI, id, wFstr, wJs, wFmt, wInsert, wSetDI]
    refine ⟨p0, by decide, mulW 7 41 (by decide) (by decide) (by omega) (by omega), ?_⟩
    generalize hg : (y + 95321 * (z + 1) * (z + 1) + 153) ^ Int.toNat 3 % p = g
    have g0 : 0 ≤ g := by rw [← hg]; exact Int.emod_nonneg _ (by omega)
    have g1 : g < p := by rw [← hg]; exact Int.emod_lt_of_pos _ p0
    have g2 : 0 ≤ g % 10069 := Int.emod_nonneg _ (by decide)
    have g3 : g % 10069 < 10069 := Int.emod_lt_of_pos _ (by decide)
    refine ⟨mulW 31 50 (by omega) (by omega) (by omega) (by omega), divW 8 (by decide) (by decide), by omega, ?_⟩
    exact k _ _ (Int.emod_nonneg _ (by omega)) (Int.emod_lt_of_pos _ (by omega)) ⟨_, _, _, rfl, hx0, hx1, hy0, hy1, z0, by omega⟩
theorem ok_pot (B : Blt mg) (T : DefT K mg "_law_pot" S_law_pot ["script", "k"]) : DefF P w K mg base τ true 1 "_law_pot" ["script", "k"] 2 none (cPot K) := by
  refine def_F (k := 0) T sc_law_pot rfl (by decide) fun f cdv A outer s H E c hr hG => ⟨_, (s_cons (s_set (i := 2) sc_law_pot.nd rfl (by first | exact .inl rfl | exact .inr rfl) (a_if (t_lt (a_var (pv 1)) (a_cb call_len calld_len rfl B.len PySem.boot_len (aa_cons (a_var (pv 0)) aa_nil))) (a_ix (units1 hr) (a_var (pv 0)) (a_var (pv 1)) (fun _ _ => rfl)) (a_add (a_mul a_int (a_var (pv 1))) a_int)))
      (s_cons (s_set (i := 3) sc_law_pot.nd rfl (by first | exact .inl rfl | exact .inr rfl) (a_mul (a_mod (a_ct call_int1 calld_int rfl B.int (by decide +kernel) (aa_cons (a_cb call_abs calld_abs rfl B.abs (by decide +kernel) (aa_cons (a_var (pv 2)) aa_nil)) aa_nil)) (a_pow (a_pow a_int a_int) a_int)) (a_ct call_int1 calld_int rfl B.int (by decide +kernel) (aa_cons (a_ge (a_cb call_abs calld_abs rfl B.abs (by decide +kernel) (aa_cons (a_var (pv 2)) aa_nil)) (a_pow a_int a_int)) aa_nil))))
      (s_cons (s_set (i := 4) sc_law_pot.nd rfl (by first | exact .inl rfl | exact .inr rfl) (a_mod (a_ct call_int1 calld_int rfl B.int (by decide +kernel) (aa_cons (a_var (pv 2)) aa_nil)) a_int))
      (s_one (s_retF (a_lst (aa_cons (a_var (pv 3)) (aa_cons (a_mod (a_ct call_int1 calld_int rfl B.int (by decide +kernel) (aa_cons (a_add (a_add (a_mul (a_var (pv 4)) a_int) (a_mul (a_mul a_int (a_var (pv 1))) (a_var (pv 1)))) a_int) aa_nil)) a_int) (aa_cons a_int aa_nil))))))))), ?_⟩
  rintro a ds m Qd Xd hl hm ⟨ns, kk, rfl, hk0, hk1, k⟩
  obtain rfl := hm rfl
  simp only [wSeqR, Rest_cons, wIf, wB, wOp, wOpF, gtD, ltD, geD, leD, intD0, DL.intD, subD, mulD, fdivD, modD, powD, addD, catD, wIxM, wC, wSet, wSetF, wSetM, wRet, wRetF, wRetN, wVar, wFv, wLst, wTup, wCB, wCBF, wCons, wNil, wRef, wNext, wDrop, wAnd, wOr, wNot, wAndV, wOrV, wNotV, wIfE, wNeg, intC, absD, maxD, minD, lenD, wLenM, atDd, atD, mutOf, setMut, agR, agDs, env0, parm, bodyEnds, bodyEndsF, gN, wAsg, exists_eq_left, exists_eq_left', exists_eq, exists_eq', Option.some.injEq, D.int.injEq, Sl.bor.injEq, Sl.own.injEq, Sl.val.injEq, D.bl.injEq, D.str.injEq, D.lst.injEq, D.tup.injEq, and_true, true_and, exists_const, exists_and_left, exists_and_right, List.getElem?_cons_zero, List.getElem?_cons_succ, List.set_cons_zero, List.set_cons_succ, List.length_cons, List.length_nil, decide_eq_true_eq, if_true, if_false, ite_true, ite_false, List.replicate, List.append_nil, List.nil_append, List.cons_append, List.append_eq, atI0, atI1, atI2, ixN0, ixN1, ixN2, ix30, ix31, ix32, Nat.zero_add, Nat.reduceAdd, Nat.reduceSub, Nat.reduceLeDiff, Option.some.injEq, reduceCtorEq, if_pos, List.replicate_succ, List.replicate_zero, wCall, wCallF, wCon, wConF, wLRg1, agR, agDs, wMkE, wExtend, wAppend, wDic, wDNew, wVals, wValE, Ag.vl.injEq, List.cons.injEq, wFor_eq, wIn, wEnum, wLc_eq, wRange, wYes, gTupD, gConsD, gNilD, List.map_cons, List.map_nil, wipeE, wSplit, wSm0, wChain, wSlF, wPart, wNoP, wWhile_eq, wAug, wPar, wPar3, wPopAt, wRaise, wSetD, wSetK, wLenB, wNinB, wTru, wTruB, wVarB, wFld, wSetA, wMake, wMeth, wTold, wParFF, wParVF, wJoin, wLenSet, isN, isNoneD, wInM, Sl.box.injEq, D.dic.injEq, D.ins.injEq, wDun, wInI, wLenI, wBinI, id, wFstr, wJs, wFmt, wInsert, wSetDI]
  refine ⟨rfl, ?_⟩
  split
  · rename_i h
    obtain ⟨n, e1, _, _⟩ := atI_get hk0 h
    exact ⟨rfl, n, e1, potL hk0 hk1 (by decide) (by decide) (by decide) (by decide) k⟩
  · exact ⟨mulW 20 20 (by decide) (by decide) (by omega) (by omega), potL hk0 hk1 (by decide) (by decide) (by decide) (by decide) k⟩
theorem ok_places (B : Blt mg) (T : DefT K mg "_law_places" S_law_places ["script", "most"]) : DefF P w K mg base τ true 1 "_law_places" ["script", "most"] 2 none (cPlaces K) := by
  refine def_F (k := 0) T sc_law_places rfl (by decide) fun f cdv A outer s H E c hr hG => ⟨_, (s_one (s_retF (a_lrg1 rfl rfl B.list rfl B.range (a_cb (call_max2 rfl) calld_max2 rfl B.max (by decide +kernel) (aa_cons a_int (aa_cons (a_cb (call_min2 rfl) calld_min2 rfl B.min (by decide +kernel) (aa_cons (a_var (pv 1)) (aa_cons (a_cb call_len calld_len rfl B.len PySem.boot_len (aa_cons (a_var (pv 0)) aa_nil)) aa_nil))) aa_nil)))))), ?_⟩
  rintro a ds m Qd Xd hl hm ⟨ns, most, rfl, hm0, hm1, k⟩
  obtain rfl := hm rfl
  simp only [wSeqR, Rest_cons, wIf, wB, wOp, wOpF, gtD, ltD, geD, leD, intD0, DL.intD, subD, mulD, fdivD, modD, powD, addD, catD, wIxM, wC, wSet, wSetF, wSetM, wRet, wRetF, wRetN, wVar, wFv, wLst, wTup, wCB, wCBF, wCons, wNil, wRef, wNext, wDrop, wAnd, wOr, wNot, wAndV, wOrV, wNotV, wIfE, wNeg, intC, absD, maxD, minD, lenD, wLenM, atDd, atD, mutOf, setMut, agR, agDs, env0, parm, bodyEnds, bodyEndsF, gN, wAsg, exists_eq_left, exists_eq_left', exists_eq, exists_eq', Option.some.injEq, D.int.injEq, Sl.bor.injEq, Sl.own.injEq, Sl.val.injEq, D.bl.injEq, D.str.injEq, D.lst.injEq, D.tup.injEq, and_true, true_and, exists_const, exists_and_left, exists_and_right, List.getElem?_cons_zero, List.getElem?_cons_succ, List.set_cons_zero, List.set_cons_succ, List.length_cons, List.length_nil, decide_eq_true_eq, if_true, if_false, ite_true, ite_false, List.replicate, List.append_nil, List.nil_append, List.cons_append, List.append_eq, atI0, atI1, atI2, ixN0, ixN1, ixN2, ix30, ix31, ix32, Nat.zero_add, Nat.reduceAdd, Nat.reduceSub, Nat.reduceLeDiff, Option.some.injEq, reduceCtorEq, if_pos, List.replicate_succ, List.replicate_zero, wCall, wCallF, wCon, wConF, wLRg1, agR, agDs, wMkE, wExtend, wAppend, wDic, wDNew, wVals, wValE, Ag.vl.injEq, List.cons.injEq, wFor_eq, wIn, wEnum, wLc_eq, wRange, wYes, gTupD, gConsD, gNilD, List.map_cons, List.map_nil, wipeE, wSplit, wSm0, wChain, wSlF, wPart, wNoP, wWhile_eq, wAug, wPar, wPar3, wPopAt, wRaise, wSetD, wSetK, wLenB, wNinB, wTru, wTruB, wVarB, wFld, wSetA, wMake, wMeth, wTold, wParFF, wParVF, wJoin, wLenSet, isN, isNoneD, wInM, Sl.box.injEq, D.dic.injEq, D.ins.injEq, wDun, wInI, wLenI, wBinI, id, wFstr, wJs, wFmt, wInsert, wSetDI]
  refine ⟨rfl, ?_⟩
  generalize hj : (if (if (ns.length : Int) < most then (ns.length : Int) else most) > 1 then if (ns.length : Int) < most then (ns.length : Int) else most else 1) = j
  have j0 : 1 ≤ j := by rw [← hj]; split <;> omega
  have j1 : j ≤ most := by rw [← hj]; (repeat' split) <;> omega
  refine ⟨RgOk.of_le (by decide) (by omega) (by decide) (by omega), ?_⟩
  exact k j.toNat (by omega) (by omega)
theorem map_erase {α β : Type} (f : α → β) : ∀ (l : List α) (j : Nat), (l.map f).eraseIdx j = (l.eraseIdx j).map f
  | [], _ => rfl
  | _ :: _, 0 => rfl
  | x :: l, j + 1 => by rw [List.map_cons, List.eraseIdx_cons_succ, List.eraseIdx_cons_succ, List.map_cons, map_erase f l j]
theorem erase_perm {α : Type} : ∀ {l : List α} {j : Nat} (h : j < l.length), (l[j] :: l.eraseIdx j).Perm l
  | _ :: _, 0, _ => .refl _
  | x :: l, j + 1, h => by
    rw [List.eraseIdx_cons_succ, List.getElem_cons_succ]
    exact (List.Perm.swap _ _ _).trans (.cons x (erase_perm (by simpa using h)))
theorem enumD_len {i : Nat} : ∀ {ds : List D}, (enumD i ds).length = ds.length
  | [] => rfl
  | _ :: ds => by rw [enumD, List.length_cons, List.length_cons, enumD_len]
theorem ok_some (B : Blt mg) (T : DefT K mg "_law_some" S_law_some ["pot", "pool", "amount"]) (D_law_take : DefE P w K mg base τ true 1 "_law_take" ["pot", "upto"] 2 (some 0) cTake) : DefE P w K mg base τ true 2 "_law_some" ["pot", "pool", "amount"] 3 (some 0) cSome := by
  refine def_E (k := 1) T sc_law_some rfl (by decide) fun f cdv A outer s H E c hr hG => ⟨_, (s_cons (s_parFF (i := 3) (j := 4) rfl sc_law_some.nd rfl rfl (by decide) rfl rfl (a_ctF call_list_of callf_list rfl B.list (by decide +kernel) (aa_cons (a_var (pv 1)) aa_nil)) (fun _ => (a_lst aa_nil)) (by first | rfl | decide +kernel))
      (s_cons (s_for (passes_of rfl) rfl (i_range1 rfl B.range (aa_cons (a_var (pv 2)) aa_nil)) (pg_name (i := 5) sc_law_some.nd rfl (by first | exact .inl rfl | exact .inr rfl)) gok_name
      (s_one (s_expr (a_append (pv 4) (a_popAt (pv 3) (a_callD D_law_take hr (by omega) hG rfl (takes_of rfl rfl rfl rfl) (aa_ref (pv 0) (aa_cons (a_lenM rfl B.len (pv 3) rfl rfl) aa_nil))))))))
      (s_one (s_ret (a_var (pv 4)))))), ?_⟩
  rintro a ds m Qd Xd hl hm ⟨α, f, xs, n, kk, rfl, hp, hn, hk, hx, k⟩
  simp only [wSeqR, Rest_cons, wIf, wB, wOp, wOpF, gtD, ltD, geD, leD, intD0, DL.intD, subD, mulD, fdivD, modD, powD, addD, catD, wIxM, wC, wSet, wSetF, wSetM, wRet, wRetF, wRetN, wVar, wFv, wLst, wTup, wCB, wCBF, wCons, wNil, wRef, wNext, wDrop, wAnd, wOr, wNot, wAndV, wOrV, wNotV, wIfE, wNeg, intC, absD, maxD, minD, lenD, wLenM, atDd, atD, mutOf, setMut, agR, agDs, env0, parm, bodyEnds, bodyEndsF, gN, wAsg, exists_eq_left, exists_eq_left', exists_eq, exists_eq', Option.some.injEq, D.int.injEq, Sl.bor.injEq, Sl.own.injEq, Sl.val.injEq, D.bl.injEq, D.str.injEq, D.lst.injEq, D.tup.injEq, and_true, true_and, exists_const, exists_and_left, exists_and_right, List.getElem?_cons_zero, List.getElem?_cons_succ, List.set_cons_zero, List.set_cons_succ, List.length_cons, List.length_nil, decide_eq_true_eq, if_true, if_false, ite_true, ite_false, List.replicate, List.append_nil, List.nil_append, List.cons_append, List.append_eq, atI0, atI1, atI2, ixN0, ixN1, ixN2, ix30, ix31, ix32, Nat.zero_add, Nat.reduceAdd, Nat.reduceSub, Nat.reduceLeDiff, Option.some.injEq, reduceCtorEq, if_pos, List.replicate_succ, List.replicate_zero, wCall, wCallF, wCon, wConF, wLRg1, agR, agDs, wMkE, wExtend, wAppend, wDic, wDNew, wVals, wValE, Ag.vl.injEq, List.cons.injEq, wFor_eq, wIn, wEnum, wLc_eq, wRange, wYes, gTupD, gConsD, gNilD, List.map_cons, List.map_nil, wipeE, wSplit, wSm0, wChain, wSlF, wPart, wNoP, wWhile_eq, wAug, wPar, wPar3, wPopAt, wRaise, wSetD, wSetK, wLenB, wNinB, wTru, wTruB, wVarB, wFld, wSetA, wMake, wMeth, wTold, wParFF, wParVF, wJoin, wLenSet, isN, isNoneD, wInM, Sl.box.injEq, D.dic.injEq, D.ins.injEq, wDun, wInI, wLenI, wBinI, id, wFstr, wJs, wFmt, wInsert, wSetDI, listF]
  refine ⟨by decide, ⟨by omega, by omega⟩, fun i env' => ∃ (ys zs : List α) (m : List D) (s5 : Sl), env' = [.bor a m, .val (.lst (xs.map f)), .val (.int kk), .own (zs.map f), .own (ys.map f), s5] ∧ (ys ++ zs).Perm xs ∧ ys.length = i ∧ Pot (n + i) m, ⟨[], xs, m, .un, rfl, .refl _, rfl, hp.mono (by omega)⟩, And.intro ?_ ?_⟩
  · rintro i d env' hd ⟨ys, zs, m, s5, rfl, hpm, rfl, hp⟩
    obtain ⟨hi, rfl⟩ := intsFrom_get _ _ _ _ hd
    have hlz : ys.length + zs.length = xs.length := by rw [← List.length_append]; exact hpm.length_eq
    have hi : ys.length < kk := by simpa using hi
    simp only [wSeqR, Rest_cons, wIf, wB, wOp, wOpF, gtD, ltD, geD, leD, intD0, DL.intD, subD, mulD, fdivD, modD, powD, addD, catD, wIxM, wC, wSet, wSetF, wSetM, wRet, wRetF, wRetN, wVar, wFv, wLst, wTup, wCB, wCBF, wCons, wNil, wRef, wNext, wDrop, wAnd, wOr, wNot, wAndV, wOrV, wNotV, wIfE, wNeg, intC, absD, maxD, minD, lenD, wLenM, atDd, atD, mutOf, setMut, agR, agDs, env0, parm, bodyEnds, bodyEndsF, gN, wAsg, exists_eq_left, exists_eq_left', exists_eq, exists_eq', Option.some.injEq, D.int.injEq, Sl.bor.injEq, Sl.own.injEq, Sl.val.injEq, D.bl.injEq, D.str.injEq, D.lst.injEq, D.tup.injEq, and_true, true_and, exists_const, exists_and_left, exists_and_right, List.getElem?_cons_zero, List.getElem?_cons_succ, List.set_cons_zero, List.set_cons_succ, List.length_cons, List.length_nil, decide_eq_true_eq, if_true, if_false, ite_true, ite_false, List.replicate, List.append_nil, List.nil_append, List.cons_append, List.append_eq, atI0, atI1, atI2, ixN0, ixN1, ixN2, ix30, ix31, ix32, Nat.zero_add, Nat.reduceAdd, Nat.reduceSub, Nat.reduceLeDiff, Option.some.injEq, reduceCtorEq, if_pos, List.replicate_succ, List.replicate_zero, wCall, wCallF, wCon, wConF, wLRg1, agR, agDs, wMkE, wExtend, wAppend, wDic, wDNew, wVals, wValE, Ag.vl.injEq, List.cons.injEq, wFor_eq, wIn, wEnum, wLc_eq, wRange, wYes, gTupD, gConsD, gNilD, List.map_cons, List.map_nil, wipeE, wSplit, wSm0, wChain, wSlF, wPart, wNoP, wWhile_eq, wAug, wPar, wPar3, wPopAt, wRaise, wSetD, wSetK, wLenB, wNinB, wTru, wTruB, wVarB, wFld, wSetA, wMake, wMeth, wTold, wParFF, wParVF, wJoin, wLenSet, isN, isNoneD, wInM, Sl.box.injEq, D.dic.injEq, D.ins.injEq, wDun, wInI, wLenI, wBinI, id, wFstr, wJs, wFmt, wInsert, wSetDI]
    rw [List.length_map]
    refine ⟨n + ys.length, _, rfl, hp, by omega, by omega, by omega, fun r m' r0 r1 p' => ?_⟩
    obtain ⟨j, rfl⟩ : ∃ j : Nat, r = j := ⟨r.toNat, by omega⟩
    have hj : j < zs.length := by omega
    refine ⟨_, rfl, by omega, by omega, j, ?_, f zs[j], by simp [hj], by rw [List.length_map]; exact Nat.lt_of_lt_of_le (show ys.length < 100000 by omega) sz, ys ++ [zs[j]], zs.eraseIdx j, m', ⟨rfl, map_erase f zs j, by simp⟩, ?_, by simp, p'.mono (by omega)⟩
    · unfold seqIndex?
      have h1 : ¬ ((j : Int) < 0) := by omega
      simp only [if_neg h1]
      rw [if_pos (by simp; omega)]
      simp
    · refine List.Perm.trans ?_ hpm
      rw [List.append_assoc]
      exact List.Perm.append_left ys (erase_perm hj)
  · rintro env' ⟨ys, zs, m, s5, rfl, hpm, hl, hp⟩
    have hl : ys.length = kk := by rw [hl, intsFrom_len]; rfl
    simp only [wSeqR, Rest_cons, wIf, wB, wOp, wOpF, gtD, ltD, geD, leD, intD0, DL.intD, subD, mulD, fdivD, modD, powD, addD, catD, wIxM, wC, wSet, wSetF, wSetM, wRet, wRetF, wRetN, wVar, wFv, wLst, wTup, wCB, wCBF, wCons, wNil, wRef, wNext, wDrop, wAnd, wOr, wNot, wAndV, wOrV, wNotV, wIfE, wNeg, intC, absD, maxD, minD, lenD, wLenM, atDd, atD, mutOf, setMut, agR, agDs, env0, parm, bodyEnds, bodyEndsF, gN, wAsg, exists_eq_left, exists_eq_left', exists_eq, exists_eq', Option.some.injEq, D.int.injEq, Sl.bor.injEq, Sl.own.injEq, Sl.val.injEq, D.bl.injEq, D.str.injEq, D.lst.injEq, D.tup.injEq, and_true, true_and, exists_const, exists_and_left, exists_and_right, List.getElem?_cons_zero, List.getElem?_cons_succ, List.set_cons_zero, List.set_cons_succ, List.length_cons, List.length_nil, decide_eq_true_eq, if_true, if_false, ite_true, ite_false, List.replicate, List.append_nil, List.nil_append, List.cons_append, List.append_eq, atI0, atI1, atI2, ixN0, ixN1, ixN2, ix30, ix31, ix32, Nat.zero_add, Nat.reduceAdd, Nat.reduceSub, Nat.reduceLeDiff, Option.some.injEq, reduceCtorEq, if_pos, List.replicate_succ, List.replicate_zero, wCall, wCallF, wCon, wConF, wLRg1, agR, agDs, wMkE, wExtend, wAppend, wDic, wDNew, wVals, wValE, Ag.vl.injEq, List.cons.injEq, wFor_eq, wIn, wEnum, wLc_eq, wRange, wYes, gTupD, gConsD, gNilD, List.map_cons, List.map_nil, wipeE, wSplit, wSm0, wChain, wSlF, wPart, wNoP, wWhile_eq, wAug, wPar, wPar3, wPopAt, wRaise, wSetD, wSetK, wLenB, wNinB, wTru, wTruB, wVarB, wFld, wSetA, wMake, wMeth, wTold, wParFF, wParVF, wJoin, wLenSet, isN, isNoneD, wInM, Sl.box.injEq, D.dic.injEq, D.ins.injEq, wDun, wInI, wLenI, wBinI, id, wFstr, wJs, wFmt, wInsert, wSetDI]
    refine k ys zs m hpm hl ?_
    rw [intsFrom_len] at hp
    exact hp
theorem ok_names (B : Blt mg) (T : DefT K mg "_law_names" S_law_names ["pot", "amount"]) (D_law_some : DefE P w K mg base τ true 2 "_law_some" ["pot", "pool", "amount"] 3 (some 0) cSome) : DefE P w K mg base τ true 3 "_law_names" ["pot", "amount"] 2 (some 0) cNames := by
  refine def_E (k := 2) T sc_law_names rfl (by decide) fun f cdv A outer s H E c hr hG => ⟨_, (s_cons (s_setF (i := 2) sc_law_names.nd rfl (by first | exact .inl rfl | exact .inr rfl) (a_lst (aa_cons a_str (aa_cons a_str (aa_cons a_str (aa_cons a_str (aa_cons a_str (aa_cons a_str (aa_cons a_str (aa_cons a_str (aa_cons a_str (aa_cons a_str (aa_cons a_str (aa_cons a_str (aa_cons a_str aa_nil)))))))))))))))
      (s_one (s_ret (a_callD D_law_some hr (by omega) hG rfl (takes_of rfl rfl rfl rfl) (aa_ref (pv 0) (aa_cons (a_fv (a_cat (a_var (pv 2)) (a_fv (a_lst (aa_cons a_str aa_nil))))) (aa_cons (a_var (pv 1)) aa_nil))))))), ?_⟩
  rintro a ds m Qd Xd hl hm ⟨n, kk, rfl, hp, hn, hk, k⟩
  simp only [wSeqR, Rest_cons, wIf, wB, wOp, wOpF, gtD, ltD, geD, leD, intD0, DL.intD, subD, mulD, fdivD, modD, powD, addD, catD, wIxM, wC, wSet, wSetF, wSetM, wRet, wRetF, wRetN, wVar, wFv, wLst, wTup, wCB, wCBF, wCons, wNil, wRef, wNext, wDrop, wAnd, wOr, wNot, wAndV, wOrV, wNotV, wIfE, wNeg, intC, absD, maxD, minD, lenD, wLenM, atDd, atD, mutOf, setMut, agR, agDs, env0, parm, bodyEnds, bodyEndsF, gN, wAsg, exists_eq_left, exists_eq_left', exists_eq, exists_eq', Option.some.injEq, D.int.injEq, Sl.bor.injEq, Sl.own.injEq, Sl.val.injEq, D.bl.injEq, D.str.injEq, D.lst.injEq, D.tup.injEq, and_true, true_and, exists_const, exists_and_left, exists_and_right, List.getElem?_cons_zero, List.getElem?_cons_succ, List.set_cons_zero, List.set_cons_succ, List.length_cons, List.length_nil, decide_eq_true_eq, if_true, if_false, ite_true, ite_false, List.replicate, List.append_nil, List.nil_append, List.cons_append, List.append_eq, atI0, atI1, atI2, ixN0, ixN1, ixN2, ix30, ix31, ix32, Nat.zero_add, Nat.reduceAdd, Nat.reduceSub, Nat.reduceLeDiff, Option.some.injEq, reduceCtorEq, if_pos, List.replicate_succ, List.replicate_zero, wCall, wCallF, wCon, wConF, wLRg1, agR, agDs, wMkE, wExtend, wAppend, wDic, wDNew, wVals, wValE, Ag.vl.injEq, List.cons.injEq, wFor_eq, wIn, wEnum, wLc_eq, wRange, wYes, gTupD, gConsD, gNilD, List.map_cons, List.map_nil, wipeE, wSplit, wSm0, wChain, wSlF, wPart, wNoP, wWhile_eq, wAug, wPar, wPar3, wPopAt, wRaise, wSetD, wSetK, wLenB, wNinB, wTru, wTruB, wVarB, wFld, wSetA, wMake, wMeth, wTold, wParFF, wParVF, wJoin, wLenSet, isN, isNoneD, wInM, Sl.box.injEq, D.dic.injEq, D.ins.injEq, wDun, wInI, wLenI, wBinI, id, wFstr, wJs, wFmt, wInsert, wSetDI]
  exact ⟨sz, sz, sz, Str, D.str, pool, n, kk, rfl, hp, hn, hk, by decide, fun ys zs m' hpm hl hp' => k ys m' (List.nodup_append.mp (hpm.nodup_iff.mpr (by decide +kernel))).1 (fun y hy => hpm.mem_iff.mp (List.mem_append_left _ hy)) hl hp'⟩
theorem pairsOf_len {α : Type} : ∀ l : List α, (WB.pairsOf l).length ≤ l.length * l.length
  | [] => Nat.zero_le _
  | x :: r => by
    have h := pairsOf_len r
    rw [WB.pairsOf, List.length_append, List.length_map, List.length_cons, Nat.succ_mul, Nat.mul_succ]
    omega
theorem ok_pairs (B : Blt mg) (T : DefT K mg "_law_pairs" S_law_pairs ["names"]) : DefE P w K mg base τ true 1 "_law_pairs" ["names"] 1 none cPairs := by
  refine def_E (k := 0) T sc_law_pairs rfl (by decide) fun f cdv A outer s H E c hr hG => ⟨_, (s_cons (s_setF (i := 1) sc_law_pairs.nd rfl (by first | exact .inl rfl | exact .inr rfl) (a_lst aa_nil))
      (s_cons (s_for (passes_of rfl) rfl (i_enum rfl B.enumerate (a_var (pv 0))) (pg_tup (n := 2) rfl (pgs_cons (pg_name (i := 2) sc_law_pairs.nd rfl (by first | exact .inl rfl | exact .inr rfl)) (pgs_cons (pg_name (i := 3) sc_law_pairs.nd rfl (by first | exact .inl rfl | exact .inr rfl)) pgs_nil))) ((gokw_tup (n := 2) (vs := [2, 3]) (gsok_cons (gokw_name (vs := [2, 3]) (by decide)) (gsok_cons (gokw_name (vs := [2, 3]) (by decide)) gsok_nil)))).ok
      (s_one (s_expr (a_extend (pv 1) (a_fv (a_lc (own := [("other", 4)]) rfl sc_law_pairs.nd (i_in (a_fv (a_slF (a_var (pv 0)) (o_some (a_add (a_var (pv 2)) a_int)) o_none))) (blkOk_by (N := ["names", "found", "at", "one", "other"]) (sc := defScope S_law_pairs) (by decide +kernel)) (fun _ _ _ _ _ => (pg_name (i := 4) sc_law_pairs.nd rfl (Or.inl rfl))) (fun _ => (GOkW.v (gokw_name (by decide)))) (fun _ _ _ _ _ _ => ts_nil) (fun _ _ _ _ _ _ => (a_tup (aa_cons (a_var (pv 3)) (aa_cons (a_var (pv 4)) aa_nil))))))))))
      (s_one (s_ret (a_var (pv 1)))))), ?_⟩
  rintro a ds m Qd Xd hl hm ⟨xs, rfl, hx, k⟩
  obtain rfl := hm rfl
  simp only [wSeqR, Rest_cons, wIf, wB, wOp, wOpF, gtD, ltD, geD, leD, intD0, DL.intD, subD, mulD, fdivD, modD, powD, addD, catD, wIxM, wC, wSet, wSetF, wSetM, wRet, wRetF, wRetN, wVar, wFv, wLst, wTup, wCB, wCBF, wCons, wNil, wRef, wNext, wDrop, wAnd, wOr, wNot, wAndV, wOrV, wNotV, wIfE, wNeg, intC, absD, maxD, minD, lenD, wLenM, atDd, atD, mutOf, setMut, agR, agDs, env0, parm, bodyEnds, bodyEndsF, gN, wAsg, exists_eq_left, exists_eq_left', exists_eq, exists_eq', Option.some.injEq, D.int.injEq, Sl.bor.injEq, Sl.own.injEq, Sl.val.injEq, D.bl.injEq, D.str.injEq, D.lst.injEq, D.tup.injEq, and_true, true_and, exists_const, exists_and_left, exists_and_right, List.getElem?_cons_zero, List.getElem?_cons_succ, List.set_cons_zero, List.set_cons_succ, List.length_cons, List.length_nil, decide_eq_true_eq, if_true, if_false, ite_true, ite_false, List.replicate, List.append_nil, List.nil_append, List.cons_append, List.append_eq, atI0, atI1, atI2, ixN0, ixN1, ixN2, ix30, ix31, ix32, Nat.zero_add, Nat.reduceAdd, Nat.reduceSub, Nat.reduceLeDiff, Option.some.injEq, reduceCtorEq, if_pos, List.replicate_succ, List.replicate_zero, wCall, wCallF, wCon, wConF, wLRg1, agR, agDs, wMkE, wExtend, wAppend, wDic, wDNew, wVals, wValE, Ag.vl.injEq, List.cons.injEq, wFor_eq, wIn, wEnum, wLc_eq, wRange, wYes, gTupD, gConsD, gNilD, List.map_cons, List.map_nil, wipeE, wSplit, wSm0, wChain, wSlF, wPart, wNoP, wWhile_eq, wAug, wPar, wPar3, wPopAt, wRaise, wSetD, wSetK, wLenB, wNinB, wTru, wTruB, wVarB, wFld, wSetA, wMake, wMeth, wTold, wParFF, wParVF, wJoin, wLenSet, isN, isNoneD, wInM, Sl.box.injEq, D.dic.injEq, D.ins.injEq, wDun, wInI, wLenI, wBinI, id, wFstr, wJs, wFmt, wInsert, wSetDI, dLs]
  refine ⟨sz, fun i env' => ∃ (acc : List PStr) (s2 s3 : Sl), env' = [.val (.lst (xs.map D.str)), .own (acc.map D2), s2, s3, .un] ∧ acc ++ WB.pairsOf (xs.drop i) = WB.pairsOf xs, ⟨[], .un, .un, rfl, rfl⟩, And.intro ?_ ?_⟩
  · rintro i d env' hd ⟨acc, s2, s3, rfl, he⟩
    obtain ⟨y, h1, rfl⟩ := enumD_get 0 _ i d hd
    rw [List.getElem?_map] at h1
    obtain ⟨x, hx1, rfl⟩ := Option.map_eq_some_iff.mp h1
    have hi : i < xs.length := (List.getElem?_eq_some_iff.mp hx1).1
    have hx2 : xs[i] = x := (List.getElem?_eq_some_iff.mp hx1).2
    simp only [wSeqR, Rest_cons, wIf, wB, wOp, wOpF, gtD, ltD, geD, leD, intD0, DL.intD, subD, mulD, fdivD, modD, powD, addD, catD, wIxM, wC, wSet, wSetF, wSetM, wRet, wRetF, wRetN, wVar, wFv, wLst, wTup, wCB, wCBF, wCons, wNil, wRef, wNext, wDrop, wAnd, wOr, wNot, wAndV, wOrV, wNotV, wIfE, wNeg, intC, absD, maxD, minD, lenD, wLenM, atDd, atD, mutOf, setMut, agR, agDs, env0, parm, bodyEnds, bodyEndsF, gN, wAsg, exists_eq_left, exists_eq_left', exists_eq, exists_eq', Option.some.injEq, D.int.injEq, Sl.bor.injEq, Sl.own.injEq, Sl.val.injEq, D.bl.injEq, D.str.injEq, D.lst.injEq, D.tup.injEq, and_true, true_and, exists_const, exists_and_left, exists_and_right, List.getElem?_cons_zero, List.getElem?_cons_succ, List.set_cons_zero, List.set_cons_succ, List.length_cons, List.length_nil, decide_eq_true_eq, if_true, if_false, ite_true, ite_false, List.replicate, List.append_nil, List.nil_append, List.cons_append, List.append_eq, atI0, atI1, atI2, ixN0, ixN1, ixN2, ix30, ix31, ix32, Nat.zero_add, Nat.reduceAdd, Nat.reduceSub, Nat.reduceLeDiff, Option.some.injEq, reduceCtorEq, if_pos, List.replicate_succ, List.replicate_zero, wCall, wCallF, wCon, wConF, wLRg1, agR, agDs, wMkE, wExtend, wAppend, wDic, wDNew, wVals, wValE, Ag.vl.injEq, List.cons.injEq, wFor_eq, wIn, wEnum, wLc_eq, wRange, wYes, gTupD, gConsD, gNilD, List.map_cons, List.map_nil, wipeE, wSplit, wSm0, wChain, wSlF, wPart, wNoP, wWhile_eq, wAug, wPar, wPar3, wPopAt, wRaise, wSetD, wSetK, wLenB, wNinB, wTru, wTruB, wVarB, wFld, wSetA, wMake, wMeth, wTold, wParFF, wParVF, wJoin, wLenSet, isN, isNoneD, wInM, Sl.box.injEq, D.dic.injEq, D.ins.injEq, wDun, wInI, wLenI, wBinI, id, wFstr, wJs, wFmt, wInsert, wSetDI]
    refine ⟨_, _, ⟨rfl, rfl⟩, _, _, rfl, rfl, ?_⟩
    show ∃ i1, D.int ((i : Int) + 1) = D.int i1 ∧ _
    refine ⟨_, rfl, rfl, ?_⟩
    rw [show (i : Int) + 1 = ((i + 1 : Nat) : Int) by omega, cutD_drop, ← List.map_drop]
    refine lc_fm (xs.drop (i + 1)) D.str (fun _ => true) (fun y => D2 (x, y)) rfl (sl_big (by rw [List.length_drop]; omega)) (fun y hy acc G hz hG => ?_) ?_
    · simp only [wSeqR, Rest_cons, wIf, wB, wOp, wOpF, gtD, ltD, geD, leD, intD0, DL.intD, subD, mulD, fdivD, modD, powD, addD, catD, wIxM, wC, wSet, wSetF, wSetM, wRet, wRetF, wRetN, wVar, wFv, wLst, wTup, wCB, wCBF, wCons, wNil, wRef, wNext, wDrop, wAnd, wOr, wNot, wAndV, wOrV, wNotV, wIfE, wNeg, intC, absD, maxD, minD, lenD, wLenM, atDd, atD, mutOf, setMut, agR, agDs, env0, parm, bodyEnds, bodyEndsF, gN, wAsg, exists_eq_left, exists_eq_left', exists_eq, exists_eq', Option.some.injEq, D.int.injEq, Sl.bor.injEq, Sl.own.injEq, Sl.val.injEq, D.bl.injEq, D.str.injEq, D.lst.injEq, D.tup.injEq, and_true, true_and, exists_const, exists_and_left, exists_and_right, List.getElem?_cons_zero, List.getElem?_cons_succ, List.set_cons_zero, List.set_cons_succ, List.length_cons, List.length_nil, decide_eq_true_eq, if_true, if_false, ite_true, ite_false, List.replicate, List.append_nil, List.nil_append, List.cons_append, List.append_eq, atI0, atI1, atI2, ixN0, ixN1, ixN2, ix30, ix31, ix32, Nat.zero_add, Nat.reduceAdd, Nat.reduceSub, Nat.reduceLeDiff, Option.some.injEq, reduceCtorEq, if_pos, List.replicate_succ, List.replicate_zero, wCall, wCallF, wCon, wConF, wLRg1, agR, agDs, wMkE, wExtend, wAppend, wDic, wDNew, wVals, wValE, Ag.vl.injEq, List.cons.injEq, wFor_eq, wIn, wEnum, wLc_eq, wRange, wYes, gTupD, gConsD, gNilD, List.map_cons, List.map_nil, wipeE, wSplit, wSm0, wChain, wSlF, wPart, wNoP, wWhile_eq, wAug, wPar, wPar3, wPopAt, wRaise, wSetD, wSetK, wLenB, wNinB, wTru, wTruB, wVarB, wFld, wSetA, wMake, wMeth, wTold, wParFF, wParVF, wJoin, wLenSet, isN, isNoneD, wInM, Sl.box.injEq, D.dic.injEq, D.ins.injEq, wDun, wInI, wLenI, wBinI, id, wFstr, wJs, wFmt, wInsert, wSetDI]
      rw [if_pos rfl] at hG
      exact ⟨sz, hz, hG⟩
    · have e2 : xs.drop i = x :: xs.drop (i + 1) := by rw [List.drop_eq_getElem_cons hi, hx2]
      have e3 : (acc ++ (xs.drop (i + 1)).map (fun y => (x, y))) ++ WB.pairsOf (xs.drop (i + 1)) = WB.pairsOf xs := by
        rw [← he, e2, List.append_assoc]
        rfl
      have e4 : (acc.map D2).length + (((xs.drop (i + 1)).filter fun _ => true).map fun y => D2 (x, y)).length ≤ 10000 := by
        have h1 := congrArg List.length e3
        have h2 := pairsOf_len xs
        have h3 : xs.length * xs.length ≤ 100 * 100 := Nat.mul_le_mul hx hx
        simp only [List.length_append, List.length_map] at h1
        have h4 := List.length_filter_le (fun _ => true) (xs.drop (i + 1))
        simp only [List.length_map]
        omega
      refine ⟨_, rfl, _, rfl, sl_big (by omega), acc ++ (xs.drop (i + 1)).map (fun y => (x, y)), ⟨.val (.int i), .val (.str x), ?_⟩, e3⟩
      simp only [restE, List.map_append, List.map_map, List.filter_eq_self.mpr (fun (_ : Str) _ => (rfl : true = true))]
      rfl
  · rintro env' ⟨acc, s2, s3, rfl, he⟩
    rw [show (enumD 0 (xs.map D.str)).length = xs.length by rw [enumD_len, List.length_map], List.drop_length] at he
    simp only [wSeqR, Rest_cons, wIf, wB, wOp, wOpF, gtD, ltD, geD, leD, intD0, DL.intD, subD, mulD, fdivD, modD, powD, addD, catD, wIxM, wC, wSet, wSetF, wSetM, wRet, wRetF, wRetN, wVar, wFv, wLst, wTup, wCB, wCBF, wCons, wNil, wRef, wNext, wDrop, wAnd, wOr, wNot, wAndV, wOrV, wNotV, wIfE, wNeg, intC, absD, maxD, minD, lenD, wLenM, atDd, atD, mutOf, setMut, agR, agDs, env0, parm, bodyEnds, bodyEndsF, gN, wAsg, exists_eq_left, exists_eq_left', exists_eq, exists_eq', Option.some.injEq, D.int.injEq, Sl.bor.injEq, Sl.own.injEq, Sl.val.injEq, D.bl.injEq, D.str.injEq, D.lst.injEq, D.tup.injEq, and_true, true_and, exists_const, exists_and_left, exists_and_right, List.getElem?_cons_zero, List.getElem?_cons_succ, List.set_cons_zero, List.set_cons_succ, List.length_cons, List.length_nil, decide_eq_true_eq, if_true, if_false, ite_true, ite_false, List.replicate, List.append_nil, List.nil_append, List.cons_append, List.append_eq, atI0, atI1, atI2, ixN0, ixN1, ixN2, ix30, ix31, ix32, Nat.zero_add, Nat.reduceAdd, Nat.reduceSub, Nat.reduceLeDiff, Option.some.injEq, reduceCtorEq, if_pos, List.replicate_succ, List.replicate_zero, wCall, wCallF, wCon, wConF, wLRg1, agR, agDs, wMkE, wExtend, wAppend, wDic, wDNew, wVals, wValE, Ag.vl.injEq, List.cons.injEq, wFor_eq, wIn, wEnum, wLc_eq, wRange, wYes, gTupD, gConsD, gNilD, List.map_cons, List.map_nil, wipeE, wSplit, wSm0, wChain, wSlF, wPart, wNoP, wWhile_eq, wAug, wPar, wPar3, wPopAt, wRaise, wSetD, wSetK, wLenB, wNinB, wTru, wTruB, wVarB, wFld, wSetA, wMake, wMeth, wTold, wParFF, wParVF, wJoin, wLenSet, isN, isNoneD, wInM, Sl.box.injEq, D.dic.injEq, D.ins.injEq, wDun, wInI, wLenI, wBinI, id, wFstr, wJs, wFmt, wInsert, wSetDI]
    rw [show acc = WB.pairsOf xs by simpa [WB.pairsOf] using he]
    exact k

theorem ok_of (B : Blt mg) (T : DefT K mg "_law_of" S_law_of ["pot", "some"]) (D_law_take : DefE P w K mg base τ true 1 "_law_take" ["pot", "upto"] 2 (some 0) cTake) : DefE P w K mg base τ true 2 "_law_of" ["pot", "some"] 2 (some 0) cOf := by
  refine def_E (k := 1) T sc_law_of rfl (by decide) fun f cdv A outer s H E c hr hG => ⟨_, (s_one (s_ret (a_ix (units1 hr) (a_var (pv 1)) (a_callD D_law_take hr (by omega) hG rfl (takes_of rfl rfl rfl rfl) (aa_ref (pv 0) (aa_cons (a_cb call_len calld_len rfl B.len PySem.boot_len (aa_cons (a_var (pv 1)) aa_nil)) aa_nil))) (fun _ _ => rfl)))), ?_⟩
  rintro a ds m Qd Xd hl hm ⟨n, xs, hd, hp, hn, hx0, hx1, k⟩
  rcases hd with rfl | rfl
  all_goals
    simp only [wSeqR, Rest_cons, wIf, wB, wOp, wOpF, gtD, ltD, geD, leD, intD0, DL.intD, subD, mulD, fdivD, modD, powD, addD, catD, wIxM, wC, wSet, wSetF, wSetM, wRet, wRetF, wRetN, wVar, wFv, wLst, wTup, wCB, wCBF, wCons, wNil, wRef, wNext, wDrop, wAnd, wOr, wNot, wAndV, wOrV, wNotV, wIfE, wNeg, intC, absD, maxD, minD, lenD, wLenM, atDd, atD, mutOf, setMut, agR, agDs, env0, parm, bodyEnds, bodyEndsF, gN, wAsg, exists_eq_left, exists_eq_left', exists_eq, exists_eq', Option.some.injEq, D.int.injEq, Sl.bor.injEq, Sl.own.injEq, Sl.val.injEq, D.bl.injEq, D.str.injEq, D.lst.injEq, D.tup.injEq, and_true, true_and, exists_const, exists_and_left, exists_and_right, List.getElem?_cons_zero, List.getElem?_cons_succ, List.set_cons_zero, List.set_cons_succ, List.length_cons, List.length_nil, decide_eq_true_eq, if_true, if_false, ite_true, ite_false, List.replicate, List.append_nil, List.nil_append, List.cons_append, List.append_eq, atI0, atI1, atI2, ixN0, ixN1, ixN2, ix30, ix31, ix32, Nat.zero_add, Nat.reduceAdd, Nat.reduceSub, Nat.reduceLeDiff, Option.some.injEq, reduceCtorEq, if_pos, List.replicate_succ, List.replicate_zero, wCall, wCallF, wCon, wConF, wLRg1, agR, agDs, wMkE, wExtend, wAppend, wDic, wDNew, wVals, wValE, Ag.vl.injEq, List.cons.injEq, wFor_eq, wIn, wEnum, wLc_eq, wRange, wYes, gTupD, gConsD, gNilD, List.map_cons, List.map_nil, wipeE, wSplit, wSm0, wChain, wSlF, wPart, wNoP, wWhile_eq, wAug, wPar, wPar3, wPopAt, wRaise, wSetD, wSetK, wLenB, wNinB, wTru, wTruB, wVarB, wFld, wSetA, wMake, wMeth, wTold, wParFF, wParVF, wJoin, wLenSet, isN, isNoneD, wInM, Sl.box.injEq, D.dic.injEq, D.ins.injEq, wDun, wInI, wLenI, wBinI, id, wFstr, wJs, wFmt, wInsert, wSetDI]
    refine ⟨n, _, rfl, hp, hn, by omega, by omega, fun r m' r0 r1 p' => ?_⟩
    obtain ⟨d, e1, e2, _⟩ := atI_get r0 r1
    exact ⟨d, e1, k d m' e2 p'⟩

theorem ok_lot_of (B : Blt mg) (hS : SysB base) (T : DefT K mg "_law_lot_of" S_law_lot_of ["pot", "names"]) (D_law_take : DefE P w K mg base τ true 1 "_law_take" ["pot", "upto"] 2 (some 0) cTake) : DefE P w K mg base τ true 2 "_law_lot_of" ["pot", "names"] 2 (some 0) cLotOf := by
  refine def_E (k := 1) T sc_law_lot_of rfl (by decide) fun f cdv A outer s H E c hr hG => ⟨_, (s_cons (s_set (i := 2) sc_law_lot_of.nd rfl (by first | exact .inl rfl | exact .inr rfl) (a_callD D_law_take hr (by omega) hG rfl (takes_of rfl rfl rfl rfl) (aa_ref (pv 0) (aa_cons a_int aa_nil))))
      (s_cons (s_if (t_lt (a_var (pv 2)) a_int)
      (s_one (s_ret (a_if (t_eq hS hr.units (a_var (pv 2)) a_int) (a_fv (a_ctF call_list_of callf_list rfl B.list (by decide +kernel) (aa_cons (a_var (pv 1)) aa_nil))) (a_fv (a_lst aa_nil)))))
      s_nil)
      (s_one (s_ret (a_fv (a_lc (own := [("name", 3)]) rfl sc_law_lot_of.nd (i_in (a_var (pv 1))) (blkOk_by (N := ["pot", "names", "way", "name"]) (sc := defScope S_law_lot_of) (by decide +kernel)) (fun _ _ _ _ _ => (pg_name (i := 3) sc_law_lot_of.nd rfl (Or.inl rfl))) (fun _ => (GOkW.v (gokw_name (by decide)))) (fun _ _ _ _ _ _ => (ts_one (t_lt (a_callD D_law_take hr (by omega) hG rfl L2.takes0 (aa_ref (pv 0) (aa_cons a_int aa_nil))) (a_sub (a_var (pv 2)) a_int)))) (fun _ _ _ _ _ _ => (a_var (pv 3))))))))), ?_⟩
  rintro a ds m Qd Xd hl hm ⟨n, xs, rfl, hp, hn, hd, hx, k⟩
  simp only [wSeqR, Rest_cons, wIf, wB, wOp, wOpF, gtD, ltD, geD, leD, intD0, DL.intD, subD, mulD, fdivD, modD, powD, addD, catD, wIxM, wC, wSet, wSetF, wSetM, wRet, wRetF, wRetN, wVar, wFv, wLst, wTup, wCB, wCBF, wCons, wNil, wRef, wNext, wDrop, wAnd, wOr, wNot, wAndV, wOrV, wNotV, wIfE, wNeg, intC, absD, maxD, minD, lenD, wLenM, atDd, atD, mutOf, setMut, agR, agDs, env0, parm, bodyEnds, bodyEndsF, gN, wAsg, exists_eq_left, exists_eq_left', exists_eq, exists_eq', Option.some.injEq, D.int.injEq, Sl.bor.injEq, Sl.own.injEq, Sl.val.injEq, D.bl.injEq, D.str.injEq, D.lst.injEq, D.tup.injEq, and_true, true_and, exists_const, exists_and_left, exists_and_right, List.getElem?_cons_zero, List.getElem?_cons_succ, List.set_cons_zero, List.set_cons_succ, List.length_cons, List.length_nil, decide_eq_true_eq, if_true, if_false, ite_true, ite_false, List.replicate, List.append_nil, List.nil_append, List.cons_append, List.append_eq, atI0, atI1, atI2, ixN0, ixN1, ixN2, ix30, ix31, ix32, Nat.zero_add, Nat.reduceAdd, Nat.reduceSub, Nat.reduceLeDiff, Option.some.injEq, reduceCtorEq, if_pos, List.replicate_succ, List.replicate_zero, wCall, wCallF, wCon, wConF, wLRg1, agR, agDs, wMkE, wExtend, wAppend, wDic, wDNew, wVals, wValE, Ag.vl.injEq, List.cons.injEq, wFor_eq, wIn, wEnum, wLc_eq, wRange, wYes, gTupD, gConsD, gNilD, List.map_cons, List.map_nil, wipeE, wSplit, wSm0, wChain, wSlF, wPart, wNoP, wWhile_eq, wAug, wPar, wPar3, wPopAt, wRaise, wSetD, wSetK, wLenB, wNinB, wTru, wTruB, wVarB, wFld, wSetA, wMake, wMeth, wTold, wParFF, wParVF, wJoin, wLenSet, isN, isNoneD, wInM, Sl.box.injEq, D.dic.injEq, D.ins.injEq, wDun, wInI, wLenI, wBinI, id, wFstr, wJs, wFmt, wInsert, wSetDI, dLs, listF]
  refine ⟨n, 5, rfl, hp, by omega, by decide, by decide, fun r m1 r0 r1 hp1 => ?_⟩
  refine ⟨_, rfl, ?_⟩
  by_cases h : r < 2
  · rw [if_pos (decide_eq_true h)]
    refine eqD_int ⟨_, rfl, ?_⟩
    simp only [Bool.false_eq_true, if_false]
    by_cases h2 : r = 0
    · rw [if_pos (by simp [h2])]
      exact k xs m1 inSeq_self.symm (hp1.mono (by omega))
    · rw [if_neg (by simp [h2])]
      exact ⟨sz, k [] m1 inSeq_nil.symm (hp1.mono (by omega))⟩
  · rw [if_neg (by simpa using h)]
    refine ⟨rfl, fun i acc env' => ∃ (m : List D) (ys : List Str), env' = [.bor a m, .val (.lst (xs.map D.str)), .val (.int r), .un] ∧ acc = ys.map D.str ∧ Pot (n + 1 + i) m ∧ ys.Sublist (xs.take i), ⟨m1, [], rfl, rfl, hp1.mono (by omega), .slnil⟩, And.intro ?_ ?_⟩
    · rintro i d acc env' hd2 ⟨m2, ys, rfl, rfl, hp2, hs⟩
      rw [List.getElem?_map] at hd2
      obtain ⟨x, hx1, rfl⟩ := Option.map_eq_some_iff.mp hd2
      have hi : i < xs.length := (List.getElem?_eq_some_iff.mp hx1).1
      have e3 : xs.take (i + 1) = xs.take i ++ [x] := by rw [List.take_add_one, hx1]; rfl
      simp only [wSeqR, Rest_cons, wIf, wB, wOp, wOpF, gtD, ltD, geD, leD, intD0, DL.intD, subD, mulD, fdivD, modD, powD, addD, catD, wIxM, wC, wSet, wSetF, wSetM, wRet, wRetF, wRetN, wVar, wFv, wLst, wTup, wCB, wCBF, wCons, wNil, wRef, wNext, wDrop, wAnd, wOr, wNot, wAndV, wOrV, wNotV, wIfE, wNeg, intC, absD, maxD, minD, lenD, wLenM, atDd, atD, mutOf, setMut, agR, agDs, env0, parm, bodyEnds, bodyEndsF, gN, wAsg, exists_eq_left, exists_eq_left', exists_eq, exists_eq', Option.some.injEq, D.int.injEq, Sl.bor.injEq, Sl.own.injEq, Sl.val.injEq, D.bl.injEq, D.str.injEq, D.lst.injEq, D.tup.injEq, and_true, true_and, exists_const, exists_and_left, exists_and_right, List.getElem?_cons_zero, List.getElem?_cons_succ, List.set_cons_zero, List.set_cons_succ, List.length_cons, List.length_nil, decide_eq_true_eq, if_true, if_false, ite_true, ite_false, List.replicate, List.append_nil, List.nil_append, List.cons_append, List.append_eq, atI0, atI1, atI2, ixN0, ixN1, ixN2, ix30, ix31, ix32, Nat.zero_add, Nat.reduceAdd, Nat.reduceSub, Nat.reduceLeDiff, Option.some.injEq, reduceCtorEq, if_pos, List.replicate_succ, List.replicate_zero, wCall, wCallF, wCon, wConF, wLRg1, agR, agDs, wMkE, wExtend, wAppend, wDic, wDNew, wVals, wValE, Ag.vl.injEq, List.cons.injEq, wFor_eq, wIn, wEnum, wLc_eq, wRange, wYes, gTupD, gConsD, gNilD, List.map_cons, List.map_nil, wipeE, wSplit, wSm0, wChain, wSlF, wPart, wNoP, wWhile_eq, wAug, wPar, wPar3, wPopAt, wRaise, wSetD, wSetK, wLenB, wNinB, wTru, wTruB, wVarB, wFld, wSetA, wMake, wMeth, wTold, wParFF, wParVF, wJoin, wLenSet, isN, isNoneD, wInM, Sl.box.injEq, D.dic.injEq, D.ins.injEq, wDun, wInI, wLenI, wBinI, id, wFstr, wJs, wFmt, wInsert, wSetDI]
      refine ⟨n + 1 + i, 3, rfl, hp2, by omega, by decide, by decide, fun r2 m3 r20 r21 hp3 => ⟨_, rfl, ?_⟩⟩
      have hl2 := hs.length_le
      rw [List.length_take] at hl2
      by_cases h4 : r2 < r - 1
      · rw [if_pos (decide_eq_true h4)]
        exact ⟨sl_big (by rw [List.length_map]; omega), ys ++ [x], by simp, hp3.mono (by omega), by rw [e3]; exact hs.append (.refl _)⟩
      · rw [if_neg (by simpa using h4)]
        exact ⟨ys, rfl, hp3.mono (by omega), by rw [e3]; exact hs.trans (List.sublist_append_left _ _)⟩
    · rintro acc env' ⟨m2, ys, rfl, rfl, hp2, hs⟩
      rw [List.length_map, List.take_length] at hs
      rw [List.length_map] at hp2
      exact ⟨m2, rfl, k ys m2 (sub_inSeq hs hd).symm (hp2.mono (by omega))⟩
theorem ok_lines (B : Blt mg) (T : DefT K mg "_law_lines" S_law_lines ["lore"]) : DefE P w K mg base τ true 1 "_law_lines" ["lore"] 1 none cLines := by
  refine def_E (k := 0) T sc_law_lines rfl (by decide) fun f cdv A outer s H E c hr hG => ⟨_, (s_cons (s_setF (i := 1) sc_law_lines.nd rfl (by first | exact .inl rfl | exact .inr rfl) (a_lst (aa_cons (a_add a_str (a_join a_str (a_ix (units1 hr) (a_var (pv 0)) a_str (fun _ _ => rfl)))) aa_nil)))
      (s_cons (s_expr (a_extend (pv 1) (a_fv (a_lc (own := [("one", 5), ("other", 6)]) rfl sc_law_lines.nd (i_in (a_ix (units1 hr) (a_var (pv 0)) a_str (fun _ _ => rfl))) (blkOk_by (N := ["lore", "found", "name", "looks", "writes", "one", "other"]) (sc := defScope S_law_lines) (by decide +kernel)) (fun _ _ _ _ _ => (pg_tup (n := 2) rfl (pgs_cons (pg_name (i := 5) sc_law_lines.nd rfl (by first | exact .inl rfl | exact .inr rfl)) (pgs_cons (pg_name (i := 6) sc_law_lines.nd rfl (by first | exact .inl rfl | exact .inr rfl)) pgs_nil)))) (fun _ => (GOkW.v (gokw_tup (n := 2) (vs := [5, 6]) (gsok_cons (gokw_name (vs := [5, 6]) (by decide)) (gsok_cons (gokw_name (vs := [5, 6]) (by decide)) gsok_nil))))) (fun _ _ _ _ _ _ => ts_nil) (fun _ _ _ _ _ _ => (a_add (a_add (a_add a_str (a_var (pv 5))) a_str) (a_var (pv 6))))))))
      (s_cons (s_for (passes_of rfl) rfl (i_in (a_ix (units1 hr) (a_var (pv 0)) a_str (fun _ _ => rfl))) (pg_tup (n := 3) rfl (pgs_cons (pg_name (i := 2) sc_law_lines.nd rfl (by first | exact .inl rfl | exact .inr rfl)) (pgs_cons (pg_name (i := 3) sc_law_lines.nd rfl (by first | exact .inl rfl | exact .inr rfl)) (pgs_cons (pg_name (i := 4) sc_law_lines.nd rfl (by first | exact .inl rfl | exact .inr rfl)) pgs_nil)))) ((gokw_tup (n := 3) (vs := [2, 3, 4]) (gsok_cons (gokw_name (vs := [2, 3, 4]) (by decide)) (gsok_cons (gokw_name (vs := [2, 3, 4]) (by decide)) (gsok_cons (gokw_name (vs := [2, 3, 4]) (by decide)) gsok_nil))))).ok
      (s_one (s_expr (a_extend (pv 1) (a_fv (a_lst (aa_cons (a_add a_str (a_var (pv 2))) (aa_cons (a_join a_str (a_fv (a_cat (a_fv (a_lst (aa_cons a_str aa_nil))) (a_var (pv 3))))) (aa_cons (a_join a_str (a_fv (a_cat (a_fv (a_lst (aa_cons a_str aa_nil))) (a_var (pv 4))))) aa_nil)))))))))
      (s_one (s_ret (a_var (pv 1))))))), ?_⟩
  rintro a ds m Qd Xd hl hm ⟨L, rfl, ok, k⟩
  obtain rfl := hm rfl
  simp only [wSeqR, Rest_cons, wIf, wB, wOp, wOpF, gtD, ltD, geD, leD, intD0, DL.intD, subD, mulD, fdivD, modD, powD, addD, catD, wIxM, wC, wSet, wSetF, wSetM, wRet, wRetF, wRetN, wVar, wFv, wLst, wTup, wCB, wCBF, wCons, wNil, wRef, wNext, wDrop, wAnd, wOr, wNot, wAndV, wOrV, wNotV, wIfE, wNeg, intC, absD, maxD, minD, lenD, wLenM, atDd, atD, mutOf, setMut, agR, agDs, env0, parm, bodyEnds, bodyEndsF, gN, wAsg, exists_eq_left, exists_eq_left', exists_eq, exists_eq', Option.some.injEq, D.int.injEq, Sl.bor.injEq, Sl.own.injEq, Sl.val.injEq, D.bl.injEq, D.str.injEq, D.lst.injEq, D.tup.injEq, and_true, true_and, exists_const, exists_and_left, exists_and_right, List.getElem?_cons_zero, List.getElem?_cons_succ, List.set_cons_zero, List.set_cons_succ, List.length_cons, List.length_nil, decide_eq_true_eq, if_true, if_false, ite_true, ite_false, List.replicate, List.append_nil, List.nil_append, List.cons_append, List.append_eq, atI0, atI1, atI2, ixN0, ixN1, ixN2, ix30, ix31, ix32, Nat.zero_add, Nat.reduceAdd, Nat.reduceSub, Nat.reduceLeDiff, Option.some.injEq, reduceCtorEq, if_pos, List.replicate_succ, List.replicate_zero, wCall, wCallF, wCon, wConF, wLRg1, agR, agDs, wMkE, wExtend, wAppend, wDic, wDNew, wVals, wValE, Ag.vl.injEq, List.cons.injEq, wFor_eq, wIn, wEnum, wLc_eq, wRange, wYes, gTupD, gConsD, gNilD, List.map_cons, List.map_nil, wipeE, wSplit, wSm0, wChain, wSlF, wPart, wNoP, wWhile_eq, wAug, wPar, wPar3, wPopAt, wRaise, wSetD, wSetK, wLenB, wNinB, wTru, wTruB, wVarB, wFld, wSetA, wMake, wMeth, wTold, wParFF, wParVF, wJoin, wLenSet, isN, isNoneD, wInM, Sl.box.injEq, D.dic.injEq, D.ins.injEq, wDun, wInI, wLenI, wBinI, id, wFstr, wJs, wFmt, wInsert, wSetDI, dLore, dLs]
  have hne : L.cl ≠ [] := fun z => by have := ok.good.ge; rw [z] at this; simp at this
  have b := K03.wds_len ok.wd hne (by have := ok.good.le; omega)
  have r28 := ok.rv28
  refine ⟨_, rfl, _, dg1, L.cl, .inl rfl, b.1, b.2, sz, _, rfl, _, dg2, rfl, lc_fm L.rv D2 (fun _ => true) (fun p => D.str (ln (rivalLine p))) rfl (sl_big (by omega)) (fun p hp acc G hz hG => ?_) ?_⟩
  · simp only [wSeqR, Rest_cons, wIf, wB, wOp, wOpF, gtD, ltD, geD, leD, intD0, DL.intD, subD, mulD, fdivD, modD, powD, addD, catD, wIxM, wC, wSet, wSetF, wSetM, wRet, wRetF, wRetN, wVar, wFv, wLst, wTup, wCB, wCBF, wCons, wNil, wRef, wNext, wDrop, wAnd, wOr, wNot, wAndV, wOrV, wNotV, wIfE, wNeg, intC, absD, maxD, minD, lenD, wLenM, atDd, atD, mutOf, setMut, agR, agDs, env0, parm, bodyEnds, bodyEndsF, gN, wAsg, exists_eq_left, exists_eq_left', exists_eq, exists_eq', Option.some.injEq, D.int.injEq, Sl.bor.injEq, Sl.own.injEq, Sl.val.injEq, D.bl.injEq, D.str.injEq, D.lst.injEq, D.tup.injEq, and_true, true_and, exists_const, exists_and_left, exists_and_right, List.getElem?_cons_zero, List.getElem?_cons_succ, List.set_cons_zero, List.set_cons_succ, List.length_cons, List.length_nil, decide_eq_true_eq, if_true, if_false, ite_true, ite_false, List.replicate, List.append_nil, List.nil_append, List.cons_append, List.append_eq, atI0, atI1, atI2, ixN0, ixN1, ixN2, ix30, ix31, ix32, Nat.zero_add, Nat.reduceAdd, Nat.reduceSub, Nat.reduceLeDiff, Option.some.injEq, reduceCtorEq, if_pos, List.replicate_succ, List.replicate_zero, wCall, wCallF, wCon, wConF, wLRg1, agR, agDs, wMkE, wExtend, wAppend, wDic, wDNew, wVals, wValE, Ag.vl.injEq, List.cons.injEq, wFor_eq, wIn, wEnum, wLc_eq, wRange, wYes, gTupD, gConsD, gNilD, List.map_cons, List.map_nil, wipeE, wSplit, wSm0, wChain, wSlF, wPart, wNoP, wWhile_eq, wAug, wPar, wPar3, wPopAt, wRaise, wSetD, wSetK, wLenB, wNinB, wTru, wTruB, wVarB, wFld, wSetA, wMake, wMeth, wTold, wParFF, wParVF, wJoin, wLenSet, isN, isNoneD, wInM, Sl.box.injEq, D.dic.injEq, D.ins.injEq, wDun, wInI, wLenI, wBinI, id, wFstr, wJs, wFmt, wInsert, wSetDI, D2]
    rw [if_pos rfl] at hG
    have hm : p.1 ∈ L.cl ∧ p.2 ∈ L.cl := by
      rcases ok.rv p hp with z | z
      · exact pairsOf_mem z
      · exact ⟨(pairsOf_mem z).2, (pairsOf_mem z).1⟩
    obtain ⟨b1, b2, b3⟩ := K03.rivB (ok.wd _ hm.1) (ok.wd _ hm.2)
    refine ⟨_, _, ⟨rfl, rfl⟩, _, _, rfl, rfl, b1, b2, b3, hz, ?_⟩
    rw [K03.lnR]
    exact hG
  simp only [restE, List.getD, Option.getD, List.filter_eq_self.mpr (fun (_ : PStr) _ => (rfl : true = true))]
  rw [K03.lnJ, K03.lnC hne, show L.rv.map (fun p => D.str (ln (rivalLine p))) = K03.dl (L.rv.map rivalLine) by unfold K03.dl; rw [List.map_map]; rfl]
  simp only [wSeqR, Rest_cons, wIf, wB, wOp, wOpF, gtD, ltD, geD, leD, intD0, DL.intD, subD, mulD, fdivD, modD, powD, addD, catD, wIxM, wC, wSet, wSetF, wSetM, wRet, wRetF, wRetN, wVar, wFv, wLst, wTup, wCB, wCBF, wCons, wNil, wRef, wNext, wDrop, wAnd, wOr, wNot, wAndV, wOrV, wNotV, wIfE, wNeg, intC, absD, maxD, minD, lenD, wLenM, atDd, atD, mutOf, setMut, agR, agDs, env0, parm, bodyEnds, bodyEndsF, gN, wAsg, exists_eq_left, exists_eq_left', exists_eq, exists_eq', Option.some.injEq, D.int.injEq, Sl.bor.injEq, Sl.own.injEq, Sl.val.injEq, D.bl.injEq, D.str.injEq, D.lst.injEq, D.tup.injEq, and_true, true_and, exists_const, exists_and_left, exists_and_right, List.getElem?_cons_zero, List.getElem?_cons_succ, List.set_cons_zero, List.set_cons_succ, List.length_cons, List.length_nil, decide_eq_true_eq, if_true, if_false, ite_true, ite_false, List.replicate, List.append_nil, List.nil_append, List.cons_append, List.append_eq, atI0, atI1, atI2, ixN0, ixN1, ixN2, ix30, ix31, ix32, Nat.zero_add, Nat.reduceAdd, Nat.reduceSub, Nat.reduceLeDiff, Option.some.injEq, reduceCtorEq, if_pos, List.replicate_succ, List.replicate_zero, wCall, wCallF, wCon, wConF, wLRg1, agR, agDs, wMkE, wExtend, wAppend, wDic, wDNew, wVals, wValE, Ag.vl.injEq, List.cons.injEq, wFor_eq, wIn, wEnum, wLc_eq, wRange, wYes, gTupD, gConsD, gNilD, List.map_cons, List.map_nil, wipeE, wSplit, wSm0, wChain, wSlF, wPart, wNoP, wWhile_eq, wAug, wPar, wPar3, wPopAt, wRaise, wSetD, wSetK, wLenB, wNinB, wTru, wTruB, wVarB, wFld, wSetA, wMake, wMeth, wTold, wParFF, wParVF, wJoin, wLenSet, isN, isNoneD, wInM, Sl.box.injEq, D.dic.injEq, D.ins.injEq, wDun, wInI, wLenI, wBinI, id, wFstr, wJs, wFmt, wInsert, wSetDI]
  have hk4 := ok.k4
  refine ⟨sl_big (by simp only [List.length_cons, List.length_nil, K03.dl_len, List.length_map]; omega), _, rfl, _, dg3, fun i env' => ∃ s2 s3 s4, env' = [.val (.dic [.inr "clients", .inr "rivals", .inr "kinds"] [.lst (L.cl.map D.str), .lst (L.rv.map D2), .lst (L.ks.map dKind)]), .own (K03.dl (cLine L.cl :: (L.rv.map rivalLine ++ (L.ks.take i).flatMap kindLines))), s2, s3, s4, .un, .un], ⟨.un, .un, .un, by simp [K03.dl]⟩, And.intro ?_ ?_⟩
  · rintro i d env' hd ⟨s2, s3, s4, rfl⟩
    rw [List.getElem?_map] at hd
    obtain ⟨x, hx, rfl⟩ := Option.map_eq_some_iff.mp hd
    have hi : i < L.ks.length := (List.getElem?_eq_some_iff.mp hx).1
    have e3 : (L.ks.take (i + 1)).flatMap kindLines = (L.ks.take i).flatMap kindLines ++ kindLines x := by rw [List.take_add_one, hx]; simp
    obtain ⟨q1, q2, q3, q4⟩ := ok.kn x (List.mem_of_getElem? hx)
    have hll : ∀ l : List Str, l = inSeq L.cl l → (∀ w ∈ l, Wd w) ∧ l.length ≤ 8 := fun l hl => ⟨fun w hw => ok.wd w ((inSeq_le hl).2 w hw), by have := (inSeq_le hl).1; have := ok.good.le; omega⟩
    obtain ⟨wl, ll⟩ := hll _ q3
    obtain ⟨ww, lw⟩ := hll _ q4
    have bl := K03.wds_len (wds_cons (wd_of (by decide +kernel) : Wd "looks") wl) (by simp) (by simp; omega)
    have bw := K03.wds_len (wds_cons (wd_of (by decide +kernel) : Wd "writes") ww) (by simp) (by simp; omega)
    have hx10 := q2.le
    simp only [wSeqR, Rest_cons, wIf, wB, wOp, wOpF, gtD, ltD, geD, leD, intD0, DL.intD, subD, mulD, fdivD, modD, powD, addD, catD, wIxM, wC, wSet, wSetF, wSetM, wRet, wRetF, wRetN, wVar, wFv, wLst, wTup, wCB, wCBF, wCons, wNil, wRef, wNext, wDrop, wAnd, wOr, wNot, wAndV, wOrV, wNotV, wIfE, wNeg, intC, absD, maxD, minD, lenD, wLenM, atDd, atD, mutOf, setMut, agR, agDs, env0, parm, bodyEnds, bodyEndsF, gN, wAsg, exists_eq_left, exists_eq_left', exists_eq, exists_eq', Option.some.injEq, D.int.injEq, Sl.bor.injEq, Sl.own.injEq, Sl.val.injEq, D.bl.injEq, D.str.injEq, D.lst.injEq, D.tup.injEq, and_true, true_and, exists_const, exists_and_left, exists_and_right, List.getElem?_cons_zero, List.getElem?_cons_succ, List.set_cons_zero, List.set_cons_succ, List.length_cons, List.length_nil, decide_eq_true_eq, if_true, if_false, ite_true, ite_false, List.replicate, List.append_nil, List.nil_append, List.cons_append, List.append_eq, atI0, atI1, atI2, ixN0, ixN1, ixN2, ix30, ix31, ix32, Nat.zero_add, Nat.reduceAdd, Nat.reduceSub, Nat.reduceLeDiff, Option.some.injEq, reduceCtorEq, if_pos, List.replicate_succ, List.replicate_zero, wCall, wCallF, wCon, wConF, wLRg1, agR, agDs, wMkE, wExtend, wAppend, wDic, wDNew, wVals, wValE, Ag.vl.injEq, List.cons.injEq, wFor_eq, wIn, wEnum, wLc_eq, wRange, wYes, gTupD, gConsD, gNilD, List.map_cons, List.map_nil, wipeE, wSplit, wSm0, wChain, wSlF, wPart, wNoP, wWhile_eq, wAug, wPar, wPar3, wPopAt, wRaise, wSetD, wSetK, wLenB, wNinB, wTru, wTruB, wVarB, wFld, wSetA, wMake, wMeth, wTold, wParFF, wParVF, wJoin, wLenSet, isN, isNoneD, wInM, Sl.box.injEq, D.dic.injEq, D.ins.injEq, wDun, wInI, wLenI, wBinI, id, wFstr, wJs, wFmt, wInsert, wSetDI, dKind, dLs]
    have hlen : (K03.dl (cLine L.cl :: (L.rv.map rivalLine ++ (L.ks.take i).flatMap kindLines))).length ≤ 100 := by
      have h3 : ∀ l : List Right, (l.flatMap kindLines).length = l.length * 3 := by
        intro l
        induction l with
        | nil => rfl
        | cons k r ih =>
          rw [List.flatMap_cons, List.length_append, List.length_cons, Nat.succ_mul, ih]
          show 3 + _ = _
          omega
      rw [K03.dl_len, List.length_cons, List.length_append, List.length_map, h3, List.length_take]
      omega
    refine ⟨_, _, ⟨rfl, rfl⟩, _, _, rfl, _, _, rfl, rfl, sl_big (by show 5 + _ ≤ _; omega), sz, sl_big (by simp only [List.length_cons, List.length_nil, List.length_map]; omega), _, .inl rfl, bl.1, sz, sl_big (by simp only [List.length_cons, List.length_nil, List.length_map]; omega), _, .inl rfl, bw.1, sz, sl_big (by omega), ?_⟩
    rw [e3, K03.lnK, show cLine L.cl :: (L.rv.map rivalLine ++ ((L.ks.take i).flatMap kindLines ++ kindLines x)) = (cLine L.cl :: (L.rv.map rivalLine ++ (L.ks.take i).flatMap kindLines)) ++ kindLines x by simp, K03.dl_app]
    rfl
  · rintro env' ⟨s2, s3, s4, rfl⟩
    simp only [wSeqR, Rest_cons, wIf, wB, wOp, wOpF, gtD, ltD, geD, leD, intD0, DL.intD, subD, mulD, fdivD, modD, powD, addD, catD, wIxM, wC, wSet, wSetF, wSetM, wRet, wRetF, wRetN, wVar, wFv, wLst, wTup, wCB, wCBF, wCons, wNil, wRef, wNext, wDrop, wAnd, wOr, wNot, wAndV, wOrV, wNotV, wIfE, wNeg, intC, absD, maxD, minD, lenD, wLenM, atDd, atD, mutOf, setMut, agR, agDs, env0, parm, bodyEnds, bodyEndsF, gN, wAsg, exists_eq_left, exists_eq_left', exists_eq, exists_eq', Option.some.injEq, D.int.injEq, Sl.bor.injEq, Sl.own.injEq, Sl.val.injEq, D.bl.injEq, D.str.injEq, D.lst.injEq, D.tup.injEq, and_true, true_and, exists_const, exists_and_left, exists_and_right, List.getElem?_cons_zero, List.getElem?_cons_succ, List.set_cons_zero, List.set_cons_succ, List.length_cons, List.length_nil, decide_eq_true_eq, if_true, if_false, ite_true, ite_false, List.replicate, List.append_nil, List.nil_append, List.cons_append, List.append_eq, atI0, atI1, atI2, ixN0, ixN1, ixN2, ix30, ix31, ix32, Nat.zero_add, Nat.reduceAdd, Nat.reduceSub, Nat.reduceLeDiff, Option.some.injEq, reduceCtorEq, if_pos, List.replicate_succ, List.replicate_zero, wCall, wCallF, wCon, wConF, wLRg1, agR, agDs, wMkE, wExtend, wAppend, wDic, wDNew, wVals, wValE, Ag.vl.injEq, List.cons.injEq, wFor_eq, wIn, wEnum, wLc_eq, wRange, wYes, gTupD, gConsD, gNilD, List.map_cons, List.map_nil, wipeE, wSplit, wSm0, wChain, wSlF, wPart, wNoP, wWhile_eq, wAug, wPar, wPar3, wPopAt, wRaise, wSetD, wSetK, wLenB, wNinB, wTru, wTruB, wVarB, wFld, wSetA, wMake, wMeth, wTold, wParFF, wParVF, wJoin, wLenSet, isN, isNoneD, wInM, Sl.box.injEq, D.dic.injEq, D.ins.injEq, wDun, wInI, wLenI, wBinI, id, wFstr, wJs, wFmt, wInsert, wSetDI]
    rw [List.length_map, List.take_length]
    exact k
theorem ok_text (B : Blt mg) (T : DefT K mg "_law_text" S_law_text ["lore"]) (D_law_lines : DefE P w K mg base τ true 1 "_law_lines" ["lore"] 1 none cLines) : DefE P w K mg base τ true 2 "_law_text" ["lore"] 1 none cText := by
  refine def_E (k := 1) T sc_law_text rfl (by decide) fun f cdv A outer s H E c hr hG => ⟨_, (s_one (s_ret (a_join a_str (a_callD D_law_lines hr (by omega) hG rfl (takes_of rfl rfl rfl rfl) (aa_cons (a_var (pv 0)) aa_nil))))), ?_⟩
  rintro a ds m Qd Xd hl hm ⟨L, rfl, ok, k⟩
  obtain rfl := hm rfl
  simp only [wSeqR, Rest_cons, wIf, wB, wOp, wOpF, gtD, ltD, geD, leD, intD0, DL.intD, subD, mulD, fdivD, modD, powD, addD, catD, wIxM, wC, wSet, wSetF, wSetM, wRet, wRetF, wRetN, wVar, wFv, wLst, wTup, wCB, wCBF, wCons, wNil, wRef, wNext, wDrop, wAnd, wOr, wNot, wAndV, wOrV, wNotV, wIfE, wNeg, intC, absD, maxD, minD, lenD, wLenM, atDd, atD, mutOf, setMut, agR, agDs, env0, parm, bodyEnds, bodyEndsF, gN, wAsg, exists_eq_left, exists_eq_left', exists_eq, exists_eq', Option.some.injEq, D.int.injEq, Sl.bor.injEq, Sl.own.injEq, Sl.val.injEq, D.bl.injEq, D.str.injEq, D.lst.injEq, D.tup.injEq, and_true, true_and, exists_const, exists_and_left, exists_and_right, List.getElem?_cons_zero, List.getElem?_cons_succ, List.set_cons_zero, List.set_cons_succ, List.length_cons, List.length_nil, decide_eq_true_eq, if_true, if_false, ite_true, ite_false, List.replicate, List.append_nil, List.nil_append, List.cons_append, List.append_eq, atI0, atI1, atI2, ixN0, ixN1, ixN2, ix30, ix31, ix32, Nat.zero_add, Nat.reduceAdd, Nat.reduceSub, Nat.reduceLeDiff, Option.some.injEq, reduceCtorEq, if_pos, List.replicate_succ, List.replicate_zero, wCall, wCallF, wCon, wConF, wLRg1, agR, agDs, wMkE, wExtend, wAppend, wDic, wDNew, wVals, wValE, Ag.vl.injEq, List.cons.injEq, wFor_eq, wIn, wEnum, wLc_eq, wRange, wYes, gTupD, gConsD, gNilD, List.map_cons, List.map_nil, wipeE, wSplit, wSm0, wChain, wSlF, wPart, wNoP, wWhile_eq, wAug, wPar, wPar3, wPopAt, wRaise, wSetD, wSetK, wLenB, wNinB, wTru, wTruB, wVarB, wFld, wSetA, wMake, wMeth, wTold, wParFF, wParVF, wJoin, wLenSet, isN, isNoneD, wInM, Sl.box.injEq, D.dic.injEq, D.ins.injEq, wDun, wInI, wLenI, wBinI, id, wFstr, wJs, wFmt, wInsert, wSetDI]
  obtain ⟨hp, hl2⟩ := part_lore ok
  exact ⟨L, rfl, ok, (loreLines L).map ln, .inl (by rw [List.map_map]; rfl), part_b hp (by omega), k⟩
theorem ok_made {C : Addr} (T : DefT K mg "_law_made" S_law_made ["lore"]) (D_law_text : DefE P w K mg base τ true 2 "_law_text" ["lore"] 1 none cText) (DBook : DefI' P w K mg base τ false 7 "Book" C 2 (cInitBook (cls 1))) : DefE P w K mg base τ true 9 "_law_made" ["lore"] 1 none (cMade C) := by
  refine def_E (k := 8) T sc_law_made rfl (by decide) fun f cdv A outer s H E c hr hG => ⟨_, (s_one (s_ret (a_make DBook hr (by omega) calm0 rfl (takes_of rfl rfl rfl rfl) (aa_cons (a_callD D_law_text hr (by omega) hG rfl (takes_of rfl rfl rfl rfl) (aa_cons (a_var (pv 0)) aa_nil)) aa_nil)))), ?_⟩
  rintro a ds m Qd Xd hl hm ⟨L, rfl, ok, k⟩
  obtain rfl := hm rfl
  simp only [wSeqR, Rest_cons, wIf, wB, wOp, wOpF, gtD, ltD, geD, leD, intD0, DL.intD, subD, mulD, fdivD, modD, powD, addD, catD, wIxM, wC, wSet, wSetF, wSetM, wRet, wRetF, wRetN, wVar, wFv, wLst, wTup, wCB, wCBF, wCons, wNil, wRef, wNext, wDrop, wAnd, wOr, wNot, wAndV, wOrV, wNotV, wIfE, wNeg, intC, absD, maxD, minD, lenD, wLenM, atDd, atD, mutOf, setMut, agR, agDs, env0, parm, bodyEnds, bodyEndsF, gN, wAsg, exists_eq_left, exists_eq_left', exists_eq, exists_eq', Option.some.injEq, D.int.injEq, Sl.bor.injEq, Sl.own.injEq, Sl.val.injEq, D.bl.injEq, D.str.injEq, D.lst.injEq, D.tup.injEq, and_true, true_and, exists_const, exists_and_left, exists_and_right, List.getElem?_cons_zero, List.getElem?_cons_succ, List.set_cons_zero, List.set_cons_succ, List.length_cons, List.length_nil, decide_eq_true_eq, if_true, if_false, ite_true, ite_false, List.replicate, List.append_nil, List.nil_append, List.cons_append, List.append_eq, atI0, atI1, atI2, ixN0, ixN1, ixN2, ix30, ix31, ix32, Nat.zero_add, Nat.reduceAdd, Nat.reduceSub, Nat.reduceLeDiff, Option.some.injEq, reduceCtorEq, if_pos, List.replicate_succ, List.replicate_zero, wCall, wCallF, wCon, wConF, wLRg1, agR, agDs, wMkE, wExtend, wAppend, wDic, wDNew, wVals, wValE, Ag.vl.injEq, List.cons.injEq, wFor_eq, wIn, wEnum, wLc_eq, wRange, wYes, gTupD, gConsD, gNilD, List.map_cons, List.map_nil, wipeE, wSplit, wSm0, wChain, wSlF, wPart, wNoP, wWhile_eq, wAug, wPar, wPar3, wPopAt, wRaise, wSetD, wSetK, wLenB, wNinB, wTru, wTruB, wVarB, wFld, wSetA, wMake, wMeth, wTold, wParFF, wParVF, wJoin, wLenSet, isN, isNoneD, wInM, Sl.box.injEq, D.dic.injEq, D.ins.injEq, wDun, wInI, wLenI, wBinI, id, wFstr, wJs, wFmt, wInsert, wSetDI]
  refine ⟨L, rfl, ok, _, rfl, (lore_text ok).1, ?_⟩
  rw [(lore_text ok).2]
  exact k
theorem ok_areR (hS : SysB base) (T : DefT K mg "_law_are_rivals" S_law_are_rivals ["lore", "one", "other"]) : DefE P w K mg base τ true 1 "_law_are_rivals" ["lore", "one", "other"] 3 none cAreR := by
  refine def_E (k := 0) T sc_law_are_rivals rfl (by decide) fun f cdv A outer s H E c hr hG => ⟨_, (s_one (s_ret (a_or (a_inP hS (units65 hr) (a_tup (aa_cons (a_var (pv 1)) (aa_cons (a_var (pv 2)) aa_nil))) (a_ix (units1 hr) (a_var (pv 0)) a_str (fun _ _ => rfl))) (a_one (a_inP hS (units65 hr) (a_tup (aa_cons (a_var (pv 2)) (aa_cons (a_var (pv 1)) aa_nil))) (a_ix (units1 hr) (a_var (pv 0)) a_str (fun _ _ => rfl))))))), ?_⟩
  rintro a ds m Qd Xd hl hm ⟨L, u, v, rfl, ok, hu, hv, k⟩
  obtain rfl := hm rfl
  simp only [wSeqR, Rest_cons, wIf, wB, wOp, wOpF, gtD, ltD, geD, leD, intD0, DL.intD, subD, mulD, fdivD, modD, powD, addD, catD, wIxM, wC, wSet, wSetF, wSetM, wRet, wRetF, wRetN, wVar, wFv, wLst, wTup, wCB, wCBF, wCons, wNil, wRef, wNext, wDrop, wAnd, wOr, wNot, wAndV, wOrV, wNotV, wIfE, wNeg, intC, absD, maxD, minD, lenD, wLenM, atDd, atD, mutOf, setMut, agR, agDs, env0, parm, bodyEnds, bodyEndsF, gN, wAsg, exists_eq_left, exists_eq_left', exists_eq, exists_eq', Option.some.injEq, D.int.injEq, Sl.bor.injEq, Sl.own.injEq, Sl.val.injEq, D.bl.injEq, D.str.injEq, D.lst.injEq, D.tup.injEq, and_true, true_and, exists_const, exists_and_left, exists_and_right, List.getElem?_cons_zero, List.getElem?_cons_succ, List.set_cons_zero, List.set_cons_succ, List.length_cons, List.length_nil, decide_eq_true_eq, if_true, if_false, ite_true, ite_false, List.replicate, List.append_nil, List.nil_append, List.cons_append, List.append_eq, atI0, atI1, atI2, ixN0, ixN1, ixN2, ix30, ix31, ix32, Nat.zero_add, Nat.reduceAdd, Nat.reduceSub, Nat.reduceLeDiff, Option.some.injEq, reduceCtorEq, if_pos, List.replicate_succ, List.replicate_zero, wCall, wCallF, wCon, wConF, wLRg1, agR, agDs, wMkE, wExtend, wAppend, wDic, wDNew, wVals, wValE, Ag.vl.injEq, List.cons.injEq, wFor_eq, wIn, wEnum, wLc_eq, wRange, wYes, gTupD, gConsD, gNilD, List.map_cons, List.map_nil, wipeE, wSplit, wSm0, wChain, wSlF, wPart, wNoP, wWhile_eq, wAug, wPar, wPar3, wPopAt, wRaise, wSetD, wSetK, wLenB, wNinB, wTru, wTruB, wVarB, wFld, wSetA, wMake, wMeth, wTold, wParFF, wParVF, wJoin, wLenSet, isN, isNoneD, wInM, Sl.box.injEq, D.dic.injEq, D.ins.injEq, wDun, wInI, wLenI, wBinI, id, wFstr, wJs, wFmt, wInsert, wSetDI, dLore, dLs]
  refine ⟨sz, _, rfl, _, dg2, inP_pairs (c := (u, v)) (.inl rfl) ⟨hu, hv⟩ ok.okp ?_⟩
  simp only [Bool.false_eq_true, if_false]
  refine ⟨_, rfl, ?_⟩
  by_cases h3 : (u, v) ∈ L.rv
  · rw [if_pos (decide_eq_true h3)]
    rw [show arR L.rv u v = true by simp [arR, h3]] at k
    exact k
  · rw [if_neg (by simpa using h3)]
    rw [show arR L.rv u v = decide ((v, u) ∈ L.rv) by simp [arR, h3]] at k
    refine ⟨sz, _, rfl, _, dg2, inP_pairs (c := (v, u)) (.inl rfl) ⟨hv, hu⟩ ok.okp ?_⟩
    simp only [Bool.false_eq_true, if_false]
    exact k
theorem ok_is_in (B : Blt mg) (hS : SysB base) (T : DefT K mg "_law_is_in" S_law_is_in ["lore", "value"]) : DefE P w K mg base τ true 1 "_law_is_in" ["lore", "value"] 2 none cIsIn := by
  refine def_E (k := 0) T sc_law_is_in rfl (by decide) fun f cdv A outer s H E c hr hG => ⟨_, (s_one (s_ret (a_and (a_cb (callR_of calli_isi) callD_rC rfl B.isinstance (by decide +kernel) (aa_cons (a_var (pv 1)) (aa_cons (a_globT (pe_bltn (v := .ty "str") (u := .type "str") rfl B.str (by decide +kernel) rfl)) aa_nil))) (a_one (a_inS hS (units65 hr) (a_var (pv 1)) (a_ix (units1 hr) (a_var (pv 0)) a_str (fun _ _ => rfl))))))), ?_⟩
  rintro a ds m Qd Xd hl hm ⟨L, x, rfl, ok, hx, k⟩
  obtain rfl := hm rfl
  simp only [wSeqR, Rest_cons, wIf, wB, wOp, wOpF, gtD, ltD, geD, leD, intD0, DL.intD, subD, mulD, fdivD, modD, powD, addD, catD, wIxM, wC, wSet, wSetF, wSetM, wRet, wRetF, wRetN, wVar, wFv, wLst, wTup, wCB, wCBF, wCons, wNil, wRef, wNext, wDrop, wAnd, wOr, wNot, wAndV, wOrV, wNotV, wIfE, wNeg, intC, absD, maxD, minD, lenD, wLenM, atDd, atD, mutOf, setMut, agR, agDs, env0, parm, bodyEnds, bodyEndsF, gN, wAsg, exists_eq_left, exists_eq_left', exists_eq, exists_eq', Option.some.injEq, D.int.injEq, Sl.bor.injEq, Sl.own.injEq, Sl.val.injEq, D.bl.injEq, D.str.injEq, D.lst.injEq, D.tup.injEq, and_true, true_and, exists_const, exists_and_left, exists_and_right, List.getElem?_cons_zero, List.getElem?_cons_succ, List.set_cons_zero, List.set_cons_succ, List.length_cons, List.length_nil, decide_eq_true_eq, if_true, if_false, ite_true, ite_false, List.replicate, List.append_nil, List.nil_append, List.cons_append, List.append_eq, atI0, atI1, atI2, ixN0, ixN1, ixN2, ix30, ix31, ix32, Nat.zero_add, Nat.reduceAdd, Nat.reduceSub, Nat.reduceLeDiff, Option.some.injEq, reduceCtorEq, if_pos, List.replicate_succ, List.replicate_zero, wCall, wCallF, wCon, wConF, wLRg1, agR, agDs, wMkE, wExtend, wAppend, wDic, wDNew, wVals, wValE, Ag.vl.injEq, List.cons.injEq, wFor_eq, wIn, wEnum, wLc_eq, wRange, wYes, gTupD, gConsD, gNilD, List.map_cons, List.map_nil, wipeE, wSplit, wSm0, wChain, wSlF, wPart, wNoP, wWhile_eq, wAug, wPar, wPar3, wPopAt, wRaise, wSetD, wSetK, wLenB, wNinB, wTru, wTruB, wVarB, wFld, wSetA, wMake, wMeth, wTold, wParFF, wParVF, wJoin, wLenSet, isN, isNoneD, wInM, Sl.box.injEq, D.dic.injEq, D.ins.injEq, wDun, wInI, wLenI, wBinI, id, wFstr, wJs, wFmt, wInsert, wSetDI, dLore, dLs]
  refine isi_odd hx ⟨_, rfl, ?_⟩
  by_cases h : isStr x = true
  · rw [if_pos h]
    exact ⟨_, rfl, _, dg1, L.cl, .inl rfl, fun c hc => (ok.wd c hc).ok, hx, k⟩
  · rw [if_neg h]
    have e : memS L.cl x = false := by
      cases x with
      | str s => exact absurd rfl h
      | _ => rfl
    rw [e] at k
    exact k
theorem ok_lore (B : Blt mg) (hS : SysB base) (T : DefT K mg "_law_lore" S_law_lore ["pot", "few", "most", "kinds"]) (D_law_take : DefE P w K mg base τ true 1 "_law_take" ["pot", "upto"] 2 (some 0) cTake) (D_law_of : DefE P w K mg base τ true 2 "_law_of" ["pot", "some"] 2 (some 0) cOf) (D_law_some : DefE P w K mg base τ true 2 "_law_some" ["pot", "pool", "amount"] 3 (some 0) cSome)
    (D_law_names : DefE P w K mg base τ true 3 "_law_names" ["pot", "amount"] 2 (some 0) cNames) (D_law_pairs : DefE P w K mg base τ true 1 "_law_pairs" ["names"] 1 none cPairs) (D_law_lot_of : DefE P w K mg base τ true 2 "_law_lot_of" ["pot", "names"] 2 (some 0) cLotOf) : DefE P w K mg base τ true 4 "_law_lore" ["pot", "few", "most", "kinds"] 4 (some 0) cLore := by
  refine def_E (k := 3) T sc_law_lore rfl (by decide) fun f cdv A outer s H E c hr hG => ⟨_, (s_cons (s_parVF (i := 4) (j := 5) rfl sc_law_lore.nd rfl rfl (by decide) rfl rfl (a_callD D_law_names hr (by omega) hG rfl (takes_of rfl rfl rfl rfl) (aa_ref (pv 0) (aa_cons (a_add (a_var (pv 1)) (a_callD D_law_take hr (by omega) hG rfl (takes_of rfl rfl rfl rfl) (aa_ref (pv 0) (aa_cons (a_add (a_sub (a_var (pv 2)) (a_var (pv 1))) a_int) aa_nil)))) aa_nil))) (a_lst aa_nil) (by first | rfl | decide +kernel))
      (s_cons (s_set (i := 6) sc_law_lore.nd rfl (by first | exact .inl rfl | exact .inr rfl) (a_callD D_law_of hr (by omega) hG rfl (takes_of rfl rfl rfl rfl) (aa_ref (pv 0) (aa_cons (a_fv (a_lst (aa_cons a_int (aa_cons a_int (aa_cons a_int (aa_cons a_int aa_nil)))))) aa_nil))))
      (s_cons (s_for (passes_of rfl) rfl (i_in (a_callD D_law_pairs hr (by omega) hG rfl (takes_of rfl rfl rfl rfl) (aa_cons (a_var (pv 4)) aa_nil))) (pg_tup (n := 2) rfl (pgs_cons (pg_name (i := 7) sc_law_lore.nd rfl (by first | exact .inl rfl | exact .inr rfl)) (pgs_cons (pg_name (i := 8) sc_law_lore.nd rfl (by first | exact .inl rfl | exact .inr rfl)) pgs_nil))) ((gokw_tup (n := 2) (vs := [7, 8]) (gsok_cons (gokw_name (vs := [7, 8]) (by decide)) (gsok_cons (gokw_name (vs := [7, 8]) (by decide)) gsok_nil)))).ok
      (s_one (s_if (t_eq hS hr.units (a_callD D_law_take hr (by omega) hG rfl (takes_of rfl rfl rfl rfl) (aa_ref (pv 0) (aa_cons (a_var (pv 6)) aa_nil))) a_int)
      (s_one (s_expr (a_append (pv 5) (a_if (t_eq hS hr.units (a_callD D_law_take hr (by omega) hG rfl (takes_of rfl rfl rfl rfl) (aa_ref (pv 0) (aa_cons a_int aa_nil))) a_int) (a_tup (aa_cons (a_var (pv 8)) (aa_cons (a_var (pv 7)) aa_nil))) (a_tup (aa_cons (a_var (pv 7)) (aa_cons (a_var (pv 8)) aa_nil)))))))
      s_nil)))
      (s_cons (s_setF (i := 9) sc_law_lore.nd rfl (by first | exact .inl rfl | exact .inr rfl) (a_lst aa_nil))
      (s_cons (s_for (passes_of rfl) rfl (i_in (a_callD D_law_some hr (by omega) hG rfl (takes_of rfl rfl rfl rfl) (aa_ref (pv 0) (aa_cons (a_fv (a_lst (aa_cons a_str (aa_cons a_str (aa_cons a_str (aa_cons a_str (aa_cons a_str (aa_cons a_str aa_nil)))))))) (aa_cons (a_add a_int (a_callD D_law_take hr (by omega) hG rfl (takes_of rfl rfl rfl rfl) (aa_ref (pv 0) (aa_cons (a_var (pv 3)) aa_nil)))) aa_nil))))) (pg_name (i := 10) sc_law_lore.nd rfl (by first | exact .inl rfl | exact .inr rfl)) gok_name
      (s_one (s_expr (a_append (pv 9) (a_tup (aa_cons (a_var (pv 10)) (aa_cons (a_callD D_law_lot_of hr (by omega) hG rfl (takes_of rfl rfl rfl rfl) (aa_ref (pv 0) (aa_cons (a_var (pv 4)) aa_nil))) (aa_cons (a_callD D_law_lot_of hr (by omega) hG rfl (takes_of rfl rfl rfl rfl) (aa_ref (pv 0) (aa_cons (a_var (pv 4)) aa_nil))) aa_nil))))))))
      (s_one (s_ret (a_dic (pps_one (key := .inr "clients") pe_str (fun _ => (a_var (pv 4))) (pps_one (key := .inr "rivals") pe_str (fun _ => (a_callD D_law_some hr (by omega) hG rfl L2.takes0 (aa_ref (pv 0) (aa_cons (a_var (pv 5)) (aa_cons (a_cb call_len calld_len rfl B.len PySem.boot_len (aa_cons (a_var (pv 5)) aa_nil)) aa_nil))))) (pps_one (key := .inr "kinds") pe_str (fun _ => (a_var (pv 9))) pps_end))) rfl rfl (by simp) (by decide))))))))), ?_⟩
  rintro a ds m Qd Xd hl hm ⟨n, few, most, kinds, rfl, hp, hn, h1, h2, h3, h4, h5, k⟩
  simp only [wSeqR, Rest_cons, wIf, wB, wOp, wOpF, gtD, ltD, geD, leD, intD0, DL.intD, subD, mulD, fdivD, modD, powD, addD, catD, wIxM, wC, wSet, wSetF, wSetM, wRet, wRetF, wRetN, wVar, wFv, wLst, wTup, wCB, wCBF, wCons, wNil, wRef, wNext, wDrop, wAnd, wOr, wNot, wAndV, wOrV, wNotV, wIfE, wNeg, intC, absD, maxD, minD, lenD, wLenM, atDd, atD, mutOf, setMut, agR, agDs, env0, parm, bodyEnds, bodyEndsF, gN, wAsg, exists_eq_left, exists_eq_left', exists_eq, exists_eq', Option.some.injEq, D.int.injEq, Sl.bor.injEq, Sl.own.injEq, Sl.val.injEq, D.bl.injEq, D.str.injEq, D.lst.injEq, D.tup.injEq, and_true, true_and, exists_const, exists_and_left, exists_and_right, List.getElem?_cons_zero, List.getElem?_cons_succ, List.set_cons_zero, List.set_cons_succ, List.length_cons, List.length_nil, decide_eq_true_eq, if_true, if_false, ite_true, ite_false, List.replicate, List.append_nil, List.nil_append, List.cons_append, List.append_eq, atI0, atI1, atI2, ixN0, ixN1, ixN2, ix30, ix31, ix32, Nat.zero_add, Nat.reduceAdd, Nat.reduceSub, Nat.reduceLeDiff, Option.some.injEq, reduceCtorEq, if_pos, List.replicate_succ, List.replicate_zero, wCall, wCallF, wCon, wConF, wLRg1, agR, agDs, wMkE, wExtend, wAppend, wDic, wDNew, wVals, wValE, Ag.vl.injEq, List.cons.injEq, wFor_eq, wIn, wEnum, wLc_eq, wRange, wYes, gTupD, gConsD, gNilD, List.map_cons, List.map_nil, wipeE, wSplit, wSm0, wChain, wSlF, wPart, wNoP, wWhile_eq, wAug, wPar, wPar3, wPopAt, wRaise, wSetD, wSetK, wLenB, wNinB, wTru, wTruB, wVarB, wFld, wSetA, wMake, wMeth, wTold, wParFF, wParVF, wJoin, wLenSet, isN, isNoneD, wInM, Sl.box.injEq, D.dic.injEq, D.ins.injEq, wDun, wInI, wLenI, wBinI, id, wFstr, wJs, wFmt, wInsert, wSetDI, dLs]
  refine ⟨n, _, rfl, hp, by omega, by omega, by omega, fun r m1 r0 r1 hp1 => ?_⟩
  obtain ⟨j, rfl⟩ : ∃ j : Nat, r = j := ⟨r.toNat, by omega⟩
  refine ⟨n + 1, few + j, by simp, hp1, by omega, by omega, fun cl m2 hnd hpl hl hp2 => ⟨sz, sz, ?_⟩⟩
  refine ⟨n + 1 + ((few + j : Nat) : Int), _, .inl rfl, hp2, by omega, by decide, by decide, fun d m3 hd hp3 => ?_⟩
  obtain ⟨th, rfl, t0, t1⟩ : ∃ th : Int, d = .int th ∧ 1 ≤ th ∧ th ≤ 5 := by
    simp only [List.mem_cons, List.not_mem_nil, or_false] at hd
    rcases hd with rfl | rfl | rfl | rfl <;> exact ⟨_, rfl, by decide, by decide⟩
  refine ⟨cl, rfl, by omega, ?_⟩
  have hp28 : (WB.pairsOf cl).length ≤ 28 := by
    have h2 := pairs_len cl
    have h3 : cl.length * cl.length ≤ 8 * cl.length := Nat.mul_le_mul_right _ (by omega)
    omega
  refine ⟨fun i env' => ∃ (m : List D) (rv : List PStr) (s7 s8 : Sl), env' = [.bor a m, .val (.int few), .val (.int most), .val (.int kinds), .val (dLs cl), .own (rv.map D2), .val (.int th), s7, s8, .un, .un] ∧ Pot (n + 20 + 2 * i) m ∧ (rv.map (seqP cl)).Sublist ((WB.pairsOf cl).take i) ∧ ∀ p ∈ rv, p ∈ WB.pairsOf cl ∨ swapP p ∈ WB.pairsOf cl, ⟨m3, [], .un, .un, rfl, hp3.mono (by omega), .slnil, fun _ z => nomatch z⟩, And.intro ?_ ?_⟩
  · rintro i d env' hd ⟨m, rv, s7, s8, rfl, hp, hs, hrv⟩
    rw [List.getElem?_map] at hd
    obtain ⟨⟨p1, p2⟩, hx, rfl⟩ := Option.map_eq_some_iff.mp hd
    have hi : i < (WB.pairsOf cl).length := (List.getElem?_eq_some_iff.mp hx).1
    have hm := List.mem_of_getElem? hx
    have e3 : (WB.pairsOf cl).take (i + 1) = (WB.pairsOf cl).take i ++ [(p1, p2)] := by rw [List.take_add_one, hx]; rfl
    have hl2 := hs.length_le
    rw [List.length_map, List.length_take] at hl2
    simp only [wSeqR, Rest_cons, wIf, wB, wOp, wOpF, gtD, ltD, geD, leD, intD0, DL.intD, subD, mulD, fdivD, modD, powD, addD, catD, wIxM, wC, wSet, wSetF, wSetM, wRet, wRetF, wRetN, wVar, wFv, wLst, wTup, wCB, wCBF, wCons, wNil, wRef, wNext, wDrop, wAnd, wOr, wNot, wAndV, wOrV, wNotV, wIfE, wNeg, intC, absD, maxD, minD, lenD, wLenM, atDd, atD, mutOf, setMut, agR, agDs, env0, parm, bodyEnds, bodyEndsF, gN, wAsg, exists_eq_left, exists_eq_left', exists_eq, exists_eq', Option.some.injEq, D.int.injEq, Sl.bor.injEq, Sl.own.injEq, Sl.val.injEq, D.bl.injEq, D.str.injEq, D.lst.injEq, D.tup.injEq, and_true, true_and, exists_const, exists_and_left, exists_and_right, List.getElem?_cons_zero, List.getElem?_cons_succ, List.set_cons_zero, List.set_cons_succ, List.length_cons, List.length_nil, decide_eq_true_eq, if_true, if_false, ite_true, ite_false, List.replicate, List.append_nil, List.nil_append, List.cons_append, List.append_eq, atI0, atI1, atI2, ixN0, ixN1, ixN2, ix30, ix31, ix32, Nat.zero_add, Nat.reduceAdd, Nat.reduceSub, Nat.reduceLeDiff, Option.some.injEq, reduceCtorEq, if_pos, List.replicate_succ, List.replicate_zero, wCall, wCallF, wCon, wConF, wLRg1, agR, agDs, wMkE, wExtend, wAppend, wDic, wDNew, wVals, wValE, Ag.vl.injEq, List.cons.injEq, wFor_eq, wIn, wEnum, wLc_eq, wRange, wYes, gTupD, gConsD, gNilD, List.map_cons, List.map_nil, wipeE, wSplit, wSm0, wChain, wSlF, wPart, wNoP, wWhile_eq, wAug, wPar, wPar3, wPopAt, wRaise, wSetD, wSetK, wLenB, wNinB, wTru, wTruB, wVarB, wFld, wSetA, wMake, wMeth, wTold, wParFF, wParVF, wJoin, wLenSet, isN, isNoneD, wInM, Sl.box.injEq, D.dic.injEq, D.ins.injEq, wDun, wInI, wLenI, wBinI, id, wFstr, wJs, wFmt, wInsert, wSetDI, D2, dLs]
    refine ⟨_, _, ⟨rfl, rfl⟩, _, _, rfl, rfl, n + 20 + 2 * i, th, rfl, hp, by omega, t0, by omega, fun r m1 r0 r1 hp1 => eqD_int ⟨_, rfl, ?_⟩⟩
    simp only [Bool.false_eq_true, if_false]
    by_cases h6 : r = 0
    · rw [if_pos (by simp [h6])]
      refine ⟨n + 20 + 2 * i + 1, 3, rfl, hp1, by omega, by decide, by decide, fun r m2 r0 r1 hp2 => eqD_int ⟨_, rfl, ?_⟩⟩
      simp only [Bool.false_eq_true, if_false]
      by_cases h7 : r = 0
      · rw [if_pos (by simp [h7])]
        refine ⟨sz, sl_big (by rw [List.length_map]; omega), m2, rv ++ [(p2, p1)], ⟨rfl, by simp [D2]⟩, hp2.mono (by omega), ?_, fun p hp => ?_⟩
        · rw [List.map_append, List.map_cons, List.map_nil, seqP_no hnd hm, e3]
          exact hs.append (.refl _)
        · rcases List.mem_append.mp hp with hp | hp
          · exact hrv p hp
          · rw [List.mem_singleton.mp hp]
            exact .inr hm
      · rw [if_neg (by simp [h7])]
        refine ⟨sz, sl_big (by rw [List.length_map]; omega), m2, rv ++ [(p1, p2)], ⟨rfl, by simp [D2]⟩, hp2.mono (by omega), ?_, fun p hp => ?_⟩
        · rw [List.map_append, List.map_cons, List.map_nil, seqP_yes hm, e3]
          exact hs.append (.refl _)
        · rcases List.mem_append.mp hp with hp | hp
          · exact hrv p hp
          · rw [List.mem_singleton.mp hp]
            exact .inl hm
    · rw [if_neg (by simp [h6])]
      exact ⟨m1, rv, ⟨rfl, rfl⟩, hp1.mono (by omega), by rw [e3]; exact hs.trans (List.sublist_append_left _ _), hrv⟩
  · rintro env' ⟨m, rv, s7, s8, rfl, hp, hs, hrv⟩
    rw [List.length_map] at hp hs
    rw [List.take_length] at hs
    have hrl : rv.length ≤ 28 := by
      have := hs.length_le
      rw [List.length_map] at this
      omega
    have hp : Pot (n + 100) m := hp.mono (by omega)
    simp only [wSeqR, Rest_cons, wIf, wB, wOp, wOpF, gtD, ltD, geD, leD, intD0, DL.intD, subD, mulD, fdivD, modD, powD, addD, catD, wIxM, wC, wSet, wSetF, wSetM, wRet, wRetF, wRetN, wVar, wFv, wLst, wTup, wCB, wCBF, wCons, wNil, wRef, wNext, wDrop, wAnd, wOr, wNot, wAndV, wOrV, wNotV, wIfE, wNeg, intC, absD, maxD, minD, lenD, wLenM, atDd, atD, mutOf, setMut, agR, agDs, env0, parm, bodyEnds, bodyEndsF, gN, wAsg, exists_eq_left, exists_eq_left', exists_eq, exists_eq', Option.some.injEq, D.int.injEq, Sl.bor.injEq, Sl.own.injEq, Sl.val.injEq, D.bl.injEq, D.str.injEq, D.lst.injEq, D.tup.injEq, and_true, true_and, exists_const, exists_and_left, exists_and_right, List.getElem?_cons_zero, List.getElem?_cons_succ, List.set_cons_zero, List.set_cons_succ, List.length_cons, List.length_nil, decide_eq_true_eq, if_true, if_false, ite_true, ite_false, List.replicate, List.append_nil, List.nil_append, List.cons_append, List.append_eq, atI0, atI1, atI2, ixN0, ixN1, ixN2, ix30, ix31, ix32, Nat.zero_add, Nat.reduceAdd, Nat.reduceSub, Nat.reduceLeDiff, Option.some.injEq, reduceCtorEq, if_pos, List.replicate_succ, List.replicate_zero, wCall, wCallF, wCon, wConF, wLRg1, agR, agDs, wMkE, wExtend, wAppend, wDic, wDNew, wVals, wValE, Ag.vl.injEq, List.cons.injEq, wFor_eq, wIn, wEnum, wLc_eq, wRange, wYes, gTupD, gConsD, gNilD, List.map_cons, List.map_nil, wipeE, wSplit, wSm0, wChain, wSlF, wPart, wNoP, wWhile_eq, wAug, wPar, wPar3, wPopAt, wRaise, wSetD, wSetK, wLenB, wNinB, wTru, wTruB, wVarB, wFld, wSetA, wMake, wMeth, wTold, wParFF, wParVF, wJoin, wLenSet, isN, isNoneD, wInM, Sl.box.injEq, D.dic.injEq, D.ins.injEq, wDun, wInI, wLenI, wBinI, id, wFstr, wJs, wFmt, wInsert, wSetDI, dLs]
    refine ⟨sz, sz, n + 100, kinds, rfl, hp, by omega, by omega, by omega, fun r m4 r0 r1 hp4 => ?_⟩
    obtain ⟨j2, rfl⟩ : ∃ j : Nat, r = j := ⟨r.toNat, by omega⟩
    refine ⟨Str, D.str, kpool, n + 100 + 1, 1 + j2, by simp [kpool], hp4, by omega, by simp [kpool]; omega, by simp [kpool], fun nms zs m5 hpm hnl hp5 => ?_⟩
    have hnn := List.nodup_append.mp (hpm.nodup_iff.mpr (by decide +kernel : kpool.Nodup))
    have hnp : ∀ y ∈ nms, y ∈ kpool := fun y hy => hpm.mem_iff.mp (List.mem_append_left _ hy)
    refine ⟨fun i env' => ∃ (m : List D) (ks : List Right) (s10 : Sl), env' = [.bor a m, .val (.int few), .val (.int most), .val (.int kinds), .val (.lst (cl.map D.str)), .own (rv.map D2), .val (.int th), s7, s8, .own (ks.map dKind), s10] ∧ Pot (n + 110 + 30 * i) m ∧ ks.map (·.1) = nms.take i ∧ ∀ k ∈ ks, k.2.1 = inSeq cl k.2.1 ∧ k.2.2 = inSeq cl k.2.2, ⟨m5, [], .un, rfl, hp5.mono (by omega), rfl, fun _ z => nomatch z⟩, And.intro ?_ ?_⟩
    · rintro i d env' hd ⟨m, ks, s10, rfl, hp, hks, hlo⟩
      rw [List.getElem?_map] at hd
      obtain ⟨x, hx, rfl⟩ := Option.map_eq_some_iff.mp hd
      have hi : i < nms.length := (List.getElem?_eq_some_iff.mp hx).1
      have e3 : nms.take (i + 1) = nms.take i ++ [x] := by rw [List.take_add_one, hx]; rfl
      have hkl : ks.length ≤ 5 := by
        have := congrArg List.length hks
        rw [List.length_map, List.length_take] at this
        omega
      simp only [wSeqR, Rest_cons, wIf, wB, wOp, wOpF, gtD, ltD, geD, leD, intD0, DL.intD, subD, mulD, fdivD, modD, powD, addD, catD, wIxM, wC, wSet, wSetF, wSetM, wRet, wRetF, wRetN, wVar, wFv, wLst, wTup, wCB, wCBF, wCons, wNil, wRef, wNext, wDrop, wAnd, wOr, wNot, wAndV, wOrV, wNotV, wIfE, wNeg, intC, absD, maxD, minD, lenD, wLenM, atDd, atD, mutOf, setMut, agR, agDs, env0, parm, bodyEnds, bodyEndsF, gN, wAsg, exists_eq_left, exists_eq_left', exists_eq, exists_eq', Option.some.injEq, D.int.injEq, Sl.bor.injEq, Sl.own.injEq, Sl.val.injEq, D.bl.injEq, D.str.injEq, D.lst.injEq, D.tup.injEq, and_true, true_and, exists_const, exists_and_left, exists_and_right, List.getElem?_cons_zero, List.getElem?_cons_succ, List.set_cons_zero, List.set_cons_succ, List.length_cons, List.length_nil, decide_eq_true_eq, if_true, if_false, ite_true, ite_false, List.replicate, List.append_nil, List.nil_append, List.cons_append, List.append_eq, atI0, atI1, atI2, ixN0, ixN1, ixN2, ix30, ix31, ix32, Nat.zero_add, Nat.reduceAdd, Nat.reduceSub, Nat.reduceLeDiff, Option.some.injEq, reduceCtorEq, if_pos, List.replicate_succ, List.replicate_zero, wCall, wCallF, wCon, wConF, wLRg1, agR, agDs, wMkE, wExtend, wAppend, wDic, wDNew, wVals, wValE, Ag.vl.injEq, List.cons.injEq, wFor_eq, wIn, wEnum, wLc_eq, wRange, wYes, gTupD, gConsD, gNilD, List.map_cons, List.map_nil, wipeE, wSplit, wSm0, wChain, wSlF, wPart, wNoP, wWhile_eq, wAug, wPar, wPar3, wPopAt, wRaise, wSetD, wSetK, wLenB, wNinB, wTru, wTruB, wVarB, wFld, wSetA, wMake, wMeth, wTold, wParFF, wParVF, wJoin, wLenSet, isN, isNoneD, wInM, Sl.box.injEq, D.dic.injEq, D.ins.injEq, wDun, wInI, wLenI, wBinI, id, wFstr, wJs, wFmt, wInsert, wSetDI, dLs]
      refine ⟨n + 110 + 30 * i, cl, rfl, hp, by omega, hnd, by omega, fun lo m6 hlo1 hp6 => ⟨n + 110 + 30 * i + 15, cl, rfl, hp6, by omega, hnd, by omega, fun wr m7 hwr hp7 => ?_⟩⟩
      refine ⟨sz, sl_big (by rw [List.length_map]; omega), m7, ks ++ [(x, lo, wr)], ⟨rfl, by simp [dKind, dLs]⟩, hp7.mono (by omega), by rw [List.map_append, hks, e3]; rfl, fun k hk => ?_⟩
      rcases List.mem_append.mp hk with hk | hk
      · exact hlo k hk
      · rw [List.mem_singleton.mp hk]
        exact ⟨hlo1, hwr⟩
    · rintro env' ⟨m, ks, s10, rfl, hp, hks, hlo⟩
      rw [List.length_map] at hp hks
      rw [List.take_length] at hks
      simp only [wSeqR, Rest_cons, wIf, wB, wOp, wOpF, gtD, ltD, geD, leD, intD0, DL.intD, subD, mulD, fdivD, modD, powD, addD, catD, wIxM, wC, wSet, wSetF, wSetM, wRet, wRetF, wRetN, wVar, wFv, wLst, wTup, wCB, wCBF, wCons, wNil, wRef, wNext, wDrop, wAnd, wOr, wNot, wAndV, wOrV, wNotV, wIfE, wNeg, intC, absD, maxD, minD, lenD, wLenM, atDd, atD, mutOf, setMut, agR, agDs, env0, parm, bodyEnds, bodyEndsF, gN, wAsg, exists_eq_left, exists_eq_left', exists_eq, exists_eq', Option.some.injEq, D.int.injEq, Sl.bor.injEq, Sl.own.injEq, Sl.val.injEq, D.bl.injEq, D.str.injEq, D.lst.injEq, D.tup.injEq, and_true, true_and, exists_const, exists_and_left, exists_and_right, List.getElem?_cons_zero, List.getElem?_cons_succ, List.set_cons_zero, List.set_cons_succ, List.length_cons, List.length_nil, decide_eq_true_eq, if_true, if_false, ite_true, ite_false, List.replicate, List.append_nil, List.nil_append, List.cons_append, List.append_eq, atI0, atI1, atI2, ixN0, ixN1, ixN2, ix30, ix31, ix32, Nat.zero_add, Nat.reduceAdd, Nat.reduceSub, Nat.reduceLeDiff, Option.some.injEq, reduceCtorEq, if_pos, List.replicate_succ, List.replicate_zero, wCall, wCallF, wCon, wConF, wLRg1, agR, agDs, wMkE, wExtend, wAppend, wDic, wDNew, wVals, wValE, Ag.vl.injEq, List.cons.injEq, wFor_eq, wIn, wEnum, wLc_eq, wRange, wYes, gTupD, gConsD, gNilD, List.map_cons, List.map_nil, wipeE, wSplit, wSm0, wChain, wSlF, wPart, wNoP, wWhile_eq, wAug, wPar, wPar3, wPopAt, wRaise, wSetD, wSetK, wLenB, wNinB, wTru, wTruB, wVarB, wFld, wSetA, wMake, wMeth, wTold, wParFF, wParVF, wJoin, wLenSet, isN, isNoneD, wInM, Sl.box.injEq, D.dic.injEq, D.ins.injEq, wDun, wInI, wLenI, wBinI, id, wFstr, wJs, wFmt, wInsert, wSetDI, dLs]
      refine ⟨by decide +kernel, PStr, D2, rv, n + 110 + 30 * nms.length, rv.length, by simp, hp, by omega, Nat.le_refl _, by omega, fun ys zs m6 hpm2 hyl hp6 => ?_⟩
      have hz : zs = [] := by
        have h := hpm2.length_eq
        rw [List.length_append, hyl] at h
        exact List.length_eq_zero_iff.mp (by omega)
      subst hz
      rw [List.append_nil] at hpm2
      have hkl : ks.length = nms.length := by rw [← hks, List.length_map]
      have hkm : ∀ k ∈ ks, k.1 ∈ kpool := fun k hk => hnp _ (by rw [← hks]; exact List.mem_map.mpr ⟨k, hk, rfl⟩)
      have hgood : LoreOk ⟨cl, ys, ks⟩ := by
        refine ⟨⟨by show 2 ≤ cl.length; omega, by show cl.length ≤ 8; omega, fun c hc => K03.pool_name (hpl c hc), hnd⟩, fun c hc => K03.pool_wd (hpl c hc), fun p hp => hrv p (hpm2.mem_iff.mp hp), ?_, ?_, ?_, ?_, ?_⟩
        · exact (hpm2.map (seqP cl)).nodup_iff.mpr (hs.nodup (K03.pairsOf_nodup hnd))
        · intro z
          have z : ks = [] := z
          rw [z, hnl] at hkl
          simp at hkl
          omega
        · show ks.length ≤ 4
          omega
        · intro k hk
          have h := List.all_eq_true.mp (by decide +kernel : kpool.all (fun x => isName x && wdB x) = true) _ (hkm k hk)
          simp only [Bool.and_eq_true] at h
          exact ⟨h.1, wd_of h.2, (hlo k hk).1, (hlo k hk).2⟩
        · show (ks.map (·.1)).Nodup
          rw [hks]
          exact hnn.1
      exact k ⟨cl, ys, ks⟩ m6 hgood hpl hkm (hp6.mono (by omega))
end

abbrev S_law_odd : Stmt := top 27
theorem sc_law_odd : FnScope ["pot", "some"] ["pot"] (defScope S_law_odd) := ⟨rfl, rfl, rfl, by decide +kernel, rfl, by decide +kernel, by decide +kernel⟩
def cOdd : Con := fun ds m Qd _ => ∃ n, ds = [.non] ∧ Pot n m ∧ n < 2 ^ 40 ∧ ∀ d m', OddV d → Nice 4 60 d → Pot (n + 1) m' → Qd d m'
section
variable {P : Program} {w : World} {K : PySem.W.Frag} {mg : Str → Option Value} {base : Heap} {τ : TBL} {cls : Nat → Addr} {C : Addr}
theorem nice_lot {l : List Str} (h : ∀ c ∈ l, c ∈ pool) (hl : l.length ≤ 8) : Nice 4 200 (dLot l) := (nice_tup (k := 0) (L := 12) (n := 8) (fun d hd => by
      obtain ⟨c, hc, rfl⟩ := List.mem_map.mp hd
      exact nice_of (List.all_eq_true.mp (by decide +kernel : pool.all (fun c => niceB 0 12 (D.str c)) = true) c (h c hc))) (by rw [List.length_map]; exact hl)).mono (by omega) (by omega)
theorem ok_odd (T : DefT K mg "_law_odd" S_law_odd ["pot"]) (D_law_of : DefE P w K mg base τ true 2 "_law_of" ["pot", "some"] 2 (some 0) cOf) : DefE P w K mg base τ true 3 "_law_odd" ["pot"] 1 (some 0) cOdd := by
  refine def_E (k := 2) T sc_law_odd rfl (by decide) fun f cdv A outer s H E c hr hG => ⟨_, (s_cons (s_setF (i := 1) sc_law_odd.nd rfl (by first | exact .inl rfl | exact .inr rfl) (a_lst (aa_cons a_non (aa_cons a_bl (aa_cons a_bl (aa_cons a_int (aa_cons a_int (aa_cons (a_neg a_int) (aa_cons a_int (aa_cons a_int (aa_cons a_str (aa_cons a_str (aa_cons a_str (aa_cons (a_tup aa_nil) (aa_cons (a_fv (a_lst aa_nil)) (aa_cons a_dnew (aa_cons (a_tup (aa_cons a_int aa_nil)) (aa_cons (a_tup (aa_cons (a_tup aa_nil) aa_nil)) (aa_cons (a_fv (a_lst (aa_cons a_int aa_nil))) (aa_cons (a_tup (aa_cons a_str aa_nil)) (aa_cons a_str aa_nil)))))))))))))))))))))
      (s_cons (s_setF (i := 1) sc_law_odd.nd rfl (by first | exact .inl rfl | exact .inr rfl) (a_cat (a_var (pv 1)) (a_fv (a_lst (aa_cons (a_dic (pps_one (key := .inr "a") pe_str (fun _ => a_int) pps_end) rfl rfl (by simp) (by decide)) (aa_cons (a_tup (aa_cons a_str (aa_cons a_str aa_nil))) (aa_cons (a_tup (aa_cons a_str (aa_cons a_int aa_nil))) (aa_cons (a_tup (aa_cons (a_tup (aa_cons a_int (aa_cons a_int aa_nil))) aa_nil)) (aa_cons (a_pow a_int a_int) (aa_cons (a_fv (a_lst (aa_cons a_str aa_nil))) (aa_cons (a_tup (aa_cons a_non aa_nil)) (aa_cons a_str (aa_cons a_str (aa_cons (a_tup (aa_cons a_bl (aa_cons a_int aa_nil))) aa_nil))))))))))))))
      (s_one (s_ret (a_callD D_law_of hr (by omega) hG rfl (takes_of rfl rfl rfl rfl) (aa_ref (pv 0) (aa_cons (a_fv (a_cat (a_var (pv 1)) (a_fv (a_lst (aa_cons (a_tup (aa_cons a_str (aa_cons a_str aa_nil))) aa_nil))))) aa_nil))))))), ?_⟩
  rintro a ds m Qd Xd hl hm ⟨n, rfl, hp, hn, k⟩
  simp only [wSeqR, Rest_cons, wIf, wB, wOp, wOpF, gtD, ltD, geD, leD, intD0, DL.intD, subD, mulD, fdivD, modD, powD, addD, catD, wIxM, wC, wSet, wSetF, wSetM, wRet, wRetF, wRetN, wVar, wFv, wLst, wTup, wCB, wCBF, wCons, wNil, wRef, wNext, wDrop, wAnd, wOr, wNot, wAndV, wOrV, wNotV, wIfE, wNeg, intC, absD, maxD, minD, lenD, wLenM, atDd, atD, mutOf, setMut, agR, agDs, env0, parm, bodyEnds, bodyEndsF, gN, wAsg, exists_eq_left, exists_eq_left', exists_eq, exists_eq', Option.some.injEq, D.int.injEq, Sl.bor.injEq, Sl.own.injEq, Sl.val.injEq, D.bl.injEq, D.str.injEq, D.lst.injEq, D.tup.injEq, and_true, true_and, exists_const, exists_and_left, exists_and_right, List.getElem?_cons_zero, List.getElem?_cons_succ, List.set_cons_zero, List.set_cons_succ, List.length_cons, List.length_nil, decide_eq_true_eq, if_true, if_false, ite_true, ite_false, List.replicate, List.append_nil, List.nil_append, List.cons_append, List.append_eq, atI0, atI1, atI2, ixN0, ixN1, ixN2, ix30, ix31, ix32, Nat.zero_add, Nat.reduceAdd, Nat.reduceSub, Nat.reduceLeDiff, Option.some.injEq, reduceCtorEq, if_pos, List.replicate_succ, List.replicate_zero, wCall, wCallF, wCon, wConF, wLRg1, agR, agDs, wMkE, wExtend, wAppend, wDic, wDNew, wVals, wValE, Ag.vl.injEq, List.cons.injEq, wFor_eq, wIn, wEnum, wLc_eq, wRange, wYes, gTupD, gConsD, gNilD, List.map_cons, List.map_nil, wipeE, wSplit, wSm0, wChain, wSlF, wPart, wNoP, wWhile_eq, wAug, wPar, wPar3, wPopAt, wRaise, wSetD, wSetK, wLenB, wNinB, wTru, wTruB, wVarB, wFld, wSetA, wMake, wMeth, wTold, wParFF, wParVF, wJoin, wLenSet, isN, isNoneD, wInM, Sl.box.injEq, D.dic.injEq, D.ins.injEq, wDun, wInI, wLenI, wBinI, id, wFstr, wJs, wFmt, wInsert, wSetDI]
  repeat (first | refine ⟨sz, ?_⟩ | refine ⟨powG 4 8 (by decide) (by decide), ?_⟩ | refine ⟨by simp, ?_⟩)
  refine ⟨n, _, .inl rfl, hp, hn, by decide, by decide, fun d m' hd p' => ?_⟩
  exact k d m' (odd_of (List.all_eq_true.mp (by decide +kernel) d hd)) (nice_all (by decide +kernel) hd) p'
end
end K05
set_option Elab.async false
set_option linter.all false
set_option maxRecDepth 100000
set_option maxHeartbeats 4000000
namespace K05
open PySem PySem.Spec PyProof.Rows L2 DL WB LamX
abbrev S_law_with : Stmt := top 36
theorem sc_law_with : FnScope ["lore", "word", "value", "found"] ["lore", "word", "value"] (defScope S_law_with) := ⟨rfl, rfl, rfl, by decide +kernel, rfl, by decide +kernel, by decide +kernel⟩
abbrev S_law_due : Stmt := top 38
theorem sc_law_due : FnScope ["lore", "one", "other", "is_more", "value"] ["lore", "one", "other", "is_more"] (defScope S_law_due) := ⟨rfl, rfl, rfl, by decide +kernel, rfl, by decide +kernel, by decide +kernel⟩
abbrev S_law_is_changed : Stmt := top 39
theorem sc_law_is_changed : FnScope ["lore", "book", "one", "other", "is_more", "caught", "told", "word", "value", "is_kind", "rest", "due", "pair"] ["lore", "book", "one", "other", "is_more"] (defScope S_law_is_changed) := ⟨rfl, rfl, rfl, by decide +kernel, rfl, by decide +kernel, by decide +kernel⟩
abbrev S_law_right : Stmt := top 40
theorem sc_law_right : FnScope ["pot", "lore", "book", "some", "one", "other", "is_more"] ["pot"] (defScope S_law_right) := ⟨rfl, rfl, rfl, by decide +kernel, rfl, by decide +kernel, by decide +kernel⟩
abbrev S_law : Stmt := top 41
theorem sc_law : FnScope ["script", "place", "pot", "lap"] ["script"] (defScope S_law) := ⟨rfl, rfl, rfl, by decide +kernel, rfl, by decide +kernel, by decide +kernel⟩
def cWith : Con := fun ds _ Qd _ => ∃ L : Lore, (∃ ps : List PStr, ds = [dLore L, .str "rivals", .lst (ps.map D2)] ∧ Qd (dLore ⟨L.cl, ps, L.ks⟩) []) ∨ ∃ ks : List Right, ds = [dLore L, .str "kinds", .lst (ks.map dKind)] ∧ Qd (dLore ⟨L.cl, L.rv, ks⟩) []
def cDue : Con := fun ds _ Qd _ => ∃ (L : Lore) (x y : D) (more : Bool), ds = [dLore L, x, y, .bl more] ∧ LoreOk L ∧ OddV x ∧ OddV y ∧
  OneOf L.cl x (fun s => OneOf L.cl y (fun t => if (decide (s = t) || (arR L.rv s t == more)) = true then Qd (.tup [.str "rivals", .tup [.str s, .str t]]) [] else Qd (.tup [.str "", .non]) []) (fun z => Qd (.tup [.str "client", z]) [])) (fun z => Qd (.tup [.str "client", z]) [])
def cChanged (C : Addr) : Con := fun ds _ Qd _ => ∃ (L : Lore) (rv : List PStr) (x y : D) (more : Bool), ds = [dLore L, dBook C (bkOf L) rv, x, y, .bl more] ∧ LoreOk L ∧ (∀ c ∈ L.cl, c ∈ pool) ∧ rv.Perm (L.rv.map (seqP L.cl)) ∧ OddV x ∧ OddV y ∧ Nice 4 60 x ∧ Nice 4 60 y ∧ Qd (.bl true) []
def cRight : Con := fun ds m Qd _ => ∃ n, ds = [.non] ∧ Pot n m ∧ n + 1000 < 2 ^ 40 ∧ ∀ m', Pot (n + 500) m' → Qd (.bl true) m'
def cLaw (K : PySem.W.Frag) : Con := fun ds _ Qd _ => ∃ ns, ds = [.scr K ns] ∧ Qd (.bl true) []
/-- what a change comes to: what is raised, or the other book -/
def Outc (L : Lore) (C : Addr) (cls : Nat → Addr) (x y : D) (more : Bool) (c t : D) : Prop :=
  (memS L.cl x = false ∧ c = .err (cls 2) x ∧ t = .non) ∨ (memS L.cl x = true ∧ memS L.cl y = false ∧ c = .err (cls 2) y ∧ t = .non) ∨
  ∃ s u, x = .str s ∧ y = .str u ∧ s ∈ L.cl ∧ u ∈ L.cl ∧ (((decide (s = u) || (arR L.rv s u == more)) = true ∧ c = .err (cls 4) (.tup [.str s, .str u]) ∧ t = .non) ∨
    ((decide (s = u) || (arR L.rv s u == more)) = false ∧ c = .non ∧ ∃ L' rv', L' = (if more = true then L.more (s, u) else L.less s u) ∧ LoreOk L' ∧ rv'.Perm (L'.rv.map (seqP L'.cl)) ∧ Asc rv' ∧ t = dBook C (bkOf L') rv'))
section
variable {P : Program} {w : World} {K : PySem.W.Frag} {mg : Str → Option Value} {base : Heap} {τ : TBL} {cls : Nat → Addr} {C : Addr}
theorem ok_with (B : Blt mg) (T : DefT K mg "_law_with" S_law_with ["lore", "word", "value"]) : DefE P w K mg base τ true 1 "_law_with" ["lore", "word", "value"] 3 none cWith := by
  refine def_E (k := 0) T sc_law_with rfl (by decide) fun f cdv A outer s H E c hr hG => ⟨_, (s_cons (s_setDI (i := 3) rfl sc_law_with.nd rfl (by first | exact .inl rfl | exact .inr rfl) rfl B.dict rfl B.list (a_var (pv 0)))
      (s_cons (s_setK (units1 hr) (pv 3) (a_var (pv 1)) (a_var (pv 2)) (fun _ _ h1 h2 => ps_asg h1 (pg_sub (pv 3) h2 (set_dict (units1 hr)))))
      (s_one (s_ret (a_varB (pv 3)))))), ?_⟩
  rintro a ds m Qd Xd hl hm ⟨L, ⟨ps, rfl, k⟩ | ⟨ks, rfl, k⟩⟩
  · obtain rfl := hm rfl
    simp only [wSeqR, wIf, wB, wOp, wOpF, gtD, ltD, geD, leD, intD0, DL.intD, subD, mulD, fdivD, modD, powD, addD, catD, wIxM, wC, wSet, wSetF, wSetM, wRet, wRetF, wRetN, wVar, wFv, wLst, wTup, wCB, wCBF, wCons, wNil, wRef, wNext, wDrop, wAnd, wOr, wNot, wAndV, wOrV, wNotV, wIfE, wNeg, intC, absD, maxD, minD, lenD, wLenM, atDd, atD, mutOf, setMut, agR, agDs, env0, parm, bodyEnds, bodyEndsF, gN, wAsg, exists_eq_left, exists_eq_left', exists_eq, exists_eq', Option.some.injEq, D.int.injEq, Sl.bor.injEq, Sl.own.injEq, Sl.val.injEq, D.bl.injEq, D.str.injEq, D.lst.injEq, D.tup.injEq, and_true, true_and, exists_const, exists_and_left, exists_and_right, List.getElem?_cons_zero, List.getElem?_cons_succ, List.set_cons_zero, List.set_cons_succ, List.length_cons, List.length_nil, decide_eq_true_eq, if_true, if_false, ite_true, ite_false, List.replicate, List.append_nil, List.nil_append, List.cons_append, List.append_eq, atI0, atI1, atI2, ixN0, ixN1, ixN2, ix30, ix31, ix32, Nat.zero_add, Nat.reduceAdd, Nat.reduceSub, Nat.reduceLeDiff, Option.some.injEq, reduceCtorEq, if_pos, List.replicate_succ, List.replicate_zero, wCall, wCallF, wCon, wConF, wLRg1, agR, agDs, wMkE, wExtend, wAppend, wDic, wDNew, wVals, wValE, Ag.vl.injEq, List.cons.injEq, wFor_eq, wIn, wEnum, wLc_eq, wRange, wYes, gTupD, gConsD, gNilD, List.map_cons, List.map_nil, wipeE, wSplit, wSm0, wChain, wSlF, wPart, wNoP, wWhile_eq, wAug, wPar, wPar3, wPopAt, wRaise, wSetD, wSetK, wLenB, wNinB, wTru, wTruB, wVarB, wFld, wSetA, wMake, wMeth, wTold, wParFF, wParVF, wJoin, wLenSet, isN, isNoneD, wInM, Sl.box.injEq, D.dic.injEq, D.ins.injEq, wDun, wInI, wLenI, wBinI, id, wFstr, wJs, wFmt, wInsert, wSetDI, cxK, tupC, listF, restE, List.getD, Option.getD, dLore, dLs]
    refine ⟨_, _, ⟨rfl, rfl⟩, by decide +kernel, ?_⟩
    (try simp only [restE, List.getD, Option.getD, List.set_cons_zero, List.set_cons_succ, List.getElem?_cons_zero, List.getElem?_cons_succ])
    rw [Rest_cons]
    simp only [wSeqR, wIf, wB, wOp, wOpF, gtD, ltD, geD, leD, intD0, DL.intD, subD, mulD, fdivD, modD, powD, addD, catD, wIxM, wC, wSet, wSetF, wSetM, wRet, wRetF, wRetN, wVar, wFv, wLst, wTup, wCB, wCBF, wCons, wNil, wRef, wNext, wDrop, wAnd, wOr, wNot, wAndV, wOrV, wNotV, wIfE, wNeg, intC, absD, maxD, minD, lenD, wLenM, atDd, atD, mutOf, setMut, agR, agDs, env0, parm, bodyEnds, bodyEndsF, gN, wAsg, exists_eq_left, exists_eq_left', exists_eq, exists_eq', Option.some.injEq, D.int.injEq, Sl.bor.injEq, Sl.own.injEq, Sl.val.injEq, D.bl.injEq, D.str.injEq, D.lst.injEq, D.tup.injEq, and_true, true_and, exists_const, exists_and_left, exists_and_right, List.getElem?_cons_zero, List.getElem?_cons_succ, List.set_cons_zero, List.set_cons_succ, List.length_cons, List.length_nil, decide_eq_true_eq, if_true, if_false, ite_true, ite_false, List.replicate, List.append_nil, List.nil_append, List.cons_append, List.append_eq, atI0, atI1, atI2, ixN0, ixN1, ixN2, ix30, ix31, ix32, Nat.zero_add, Nat.reduceAdd, Nat.reduceSub, Nat.reduceLeDiff, Option.some.injEq, reduceCtorEq, if_pos, List.replicate_succ, List.replicate_zero, wCall, wCallF, wCon, wConF, wLRg1, agR, agDs, wMkE, wExtend, wAppend, wDic, wDNew, wVals, wValE, Ag.vl.injEq, List.cons.injEq, wFor_eq, wIn, wEnum, wLc_eq, wRange, wYes, gTupD, gConsD, gNilD, List.map_cons, List.map_nil, wipeE, wSplit, wSm0, wChain, wSlF, wPart, wNoP, wWhile_eq, wAug, wPar, wPar3, wPopAt, wRaise, wSetD, wSetK, wLenB, wNinB, wTru, wTruB, wVarB, wFld, wSetA, wMake, wMeth, wTold, wParFF, wParVF, wJoin, wLenSet, isN, isNoneD, wInM, Sl.box.injEq, D.dic.injEq, D.ins.injEq, wDun, wInI, wLenI, wBinI, id, wFstr, wJs, wFmt, wInsert, wSetDI, cxK, tupC, listF, restE, List.getD, Option.getD]
    refine ⟨_, _, _, ⟨rfl, rfl, rfl⟩, _, rfl, Nat.lt_of_lt_of_le (show 3 < 100000 by omega) sz, ?_⟩
    rw [put_rv]
    (try simp only [restE, List.getD, Option.getD, List.set_cons_zero, List.set_cons_succ, List.getElem?_cons_zero, List.getElem?_cons_succ])
    rw [Rest_cons]
    simp only [wSeqR, wIf, wB, wOp, wOpF, gtD, ltD, geD, leD, intD0, DL.intD, subD, mulD, fdivD, modD, powD, addD, catD, wIxM, wC, wSet, wSetF, wSetM, wRet, wRetF, wRetN, wVar, wFv, wLst, wTup, wCB, wCBF, wCons, wNil, wRef, wNext, wDrop, wAnd, wOr, wNot, wAndV, wOrV, wNotV, wIfE, wNeg, intC, absD, maxD, minD, lenD, wLenM, atDd, atD, mutOf, setMut, agR, agDs, env0, parm, bodyEnds, bodyEndsF, gN, wAsg, exists_eq_left, exists_eq_left', exists_eq, exists_eq', Option.some.injEq, D.int.injEq, Sl.bor.injEq, Sl.own.injEq, Sl.val.injEq, D.bl.injEq, D.str.injEq, D.lst.injEq, D.tup.injEq, and_true, true_and, exists_const, exists_and_left, exists_and_right, List.getElem?_cons_zero, List.getElem?_cons_succ, List.set_cons_zero, List.set_cons_succ, List.length_cons, List.length_nil, decide_eq_true_eq, if_true, if_false, ite_true, ite_false, List.replicate, List.append_nil, List.nil_append, List.cons_append, List.append_eq, atI0, atI1, atI2, ixN0, ixN1, ixN2, ix30, ix31, ix32, Nat.zero_add, Nat.reduceAdd, Nat.reduceSub, Nat.reduceLeDiff, Option.some.injEq, reduceCtorEq, if_pos, List.replicate_succ, List.replicate_zero, wCall, wCallF, wCon, wConF, wLRg1, agR, agDs, wMkE, wExtend, wAppend, wDic, wDNew, wVals, wValE, Ag.vl.injEq, List.cons.injEq, wFor_eq, wIn, wEnum, wLc_eq, wRange, wYes, gTupD, gConsD, gNilD, List.map_cons, List.map_nil, wipeE, wSplit, wSm0, wChain, wSlF, wPart, wNoP, wWhile_eq, wAug, wPar, wPar3, wPopAt, wRaise, wSetD, wSetK, wLenB, wNinB, wTru, wTruB, wVarB, wFld, wSetA, wMake, wMeth, wTold, wParFF, wParVF, wJoin, wLenSet, isN, isNoneD, wInM, Sl.box.injEq, D.dic.injEq, D.ins.injEq, wDun, wInI, wLenI, wBinI, id, wFstr, wJs, wFmt, wInsert, wSetDI, cxK, tupC, listF, restE, List.getD, Option.getD]
    exact k
  · obtain rfl := hm rfl
    simp only [wSeqR, wIf, wB, wOp, wOpF, gtD, ltD, geD, leD, intD0, DL.intD, subD, mulD, fdivD, modD, powD, addD, catD, wIxM, wC, wSet, wSetF, wSetM, wRet, wRetF, wRetN, wVar, wFv, wLst, wTup, wCB, wCBF, wCons, wNil, wRef, wNext, wDrop, wAnd, wOr, wNot, wAndV, wOrV, wNotV, wIfE, wNeg, intC, absD, maxD, minD, lenD, wLenM, atDd, atD, mutOf, setMut, agR, agDs, env0, parm, bodyEnds, bodyEndsF, gN, wAsg, exists_eq_left, exists_eq_left', exists_eq, exists_eq', Option.some.injEq, D.int.injEq, Sl.bor.injEq, Sl.own.injEq, Sl.val.injEq, D.bl.injEq, D.str.injEq, D.lst.injEq, D.tup.injEq, and_true, true_and, exists_const, exists_and_left, exists_and_right, List.getElem?_cons_zero, List.getElem?_cons_succ, List.set_cons_zero, List.set_cons_succ, List.length_cons, List.length_nil, decide_eq_true_eq, if_true, if_false, ite_true, ite_false, List.replicate, List.append_nil, List.nil_append, List.cons_append, List.append_eq, atI0, atI1, atI2, ixN0, ixN1, ixN2, ix30, ix31, ix32, Nat.zero_add, Nat.reduceAdd, Nat.reduceSub, Nat.reduceLeDiff, Option.some.injEq, reduceCtorEq, if_pos, List.replicate_succ, List.replicate_zero, wCall, wCallF, wCon, wConF, wLRg1, agR, agDs, wMkE, wExtend, wAppend, wDic, wDNew, wVals, wValE, Ag.vl.injEq, List.cons.injEq, wFor_eq, wIn, wEnum, wLc_eq, wRange, wYes, gTupD, gConsD, gNilD, List.map_cons, List.map_nil, wipeE, wSplit, wSm0, wChain, wSlF, wPart, wNoP, wWhile_eq, wAug, wPar, wPar3, wPopAt, wRaise, wSetD, wSetK, wLenB, wNinB, wTru, wTruB, wVarB, wFld, wSetA, wMake, wMeth, wTold, wParFF, wParVF, wJoin, wLenSet, isN, isNoneD, wInM, Sl.box.injEq, D.dic.injEq, D.ins.injEq, wDun, wInI, wLenI, wBinI, id, wFstr, wJs, wFmt, wInsert, wSetDI, cxK, tupC, listF, restE, List.getD, Option.getD, dLore, dLs]
    refine ⟨_, _, ⟨rfl, rfl⟩, by decide +kernel, ?_⟩
    (try simp only [restE, List.getD, Option.getD, List.set_cons_zero, List.set_cons_succ, List.getElem?_cons_zero, List.getElem?_cons_succ])
    rw [Rest_cons]
    simp only [wSeqR, wIf, wB, wOp, wOpF, gtD, ltD, geD, leD, intD0, DL.intD, subD, mulD, fdivD, modD, powD, addD, catD, wIxM, wC, wSet, wSetF, wSetM, wRet, wRetF, wRetN, wVar, wFv, wLst, wTup, wCB, wCBF, wCons, wNil, wRef, wNext, wDrop, wAnd, wOr, wNot, wAndV, wOrV, wNotV, wIfE, wNeg, intC, absD, maxD, minD, lenD, wLenM, atDd, atD, mutOf, setMut, agR, agDs, env0, parm, bodyEnds, bodyEndsF, gN, wAsg, exists_eq_left, exists_eq_left', exists_eq, exists_eq', Option.some.injEq, D.int.injEq, Sl.bor.injEq, Sl.own.injEq, Sl.val.injEq, D.bl.injEq, D.str.injEq, D.lst.injEq, D.tup.injEq, and_true, true_and, exists_const, exists_and_left, exists_and_right, List.getElem?_cons_zero, List.getElem?_cons_succ, List.set_cons_zero, List.set_cons_succ, List.length_cons, List.length_nil, decide_eq_true_eq, if_true, if_false, ite_true, ite_false, List.replicate, List.append_nil, List.nil_append, List.cons_append, List.append_eq, atI0, atI1, atI2, ixN0, ixN1, ixN2, ix30, ix31, ix32, Nat.zero_add, Nat.reduceAdd, Nat.reduceSub, Nat.reduceLeDiff, Option.some.injEq, reduceCtorEq, if_pos, List.replicate_succ, List.replicate_zero, wCall, wCallF, wCon, wConF, wLRg1, agR, agDs, wMkE, wExtend, wAppend, wDic, wDNew, wVals, wValE, Ag.vl.injEq, List.cons.injEq, wFor_eq, wIn, wEnum, wLc_eq, wRange, wYes, gTupD, gConsD, gNilD, List.map_cons, List.map_nil, wipeE, wSplit, wSm0, wChain, wSlF, wPart, wNoP, wWhile_eq, wAug, wPar, wPar3, wPopAt, wRaise, wSetD, wSetK, wLenB, wNinB, wTru, wTruB, wVarB, wFld, wSetA, wMake, wMeth, wTold, wParFF, wParVF, wJoin, wLenSet, isN, isNoneD, wInM, Sl.box.injEq, D.dic.injEq, D.ins.injEq, wDun, wInI, wLenI, wBinI, id, wFstr, wJs, wFmt, wInsert, wSetDI, cxK, tupC, listF, restE, List.getD, Option.getD]
    refine ⟨_, _, _, ⟨rfl, rfl, rfl⟩, _, rfl, Nat.lt_of_lt_of_le (show 3 < 100000 by omega) sz, ?_⟩
    rw [put_ks]
    (try simp only [restE, List.getD, Option.getD, List.set_cons_zero, List.set_cons_succ, List.getElem?_cons_zero, List.getElem?_cons_succ])
    rw [Rest_cons]
    simp only [wSeqR, wIf, wB, wOp, wOpF, gtD, ltD, geD, leD, intD0, DL.intD, subD, mulD, fdivD, modD, powD, addD, catD, wIxM, wC, wSet, wSetF, wSetM, wRet, wRetF, wRetN, wVar, wFv, wLst, wTup, wCB, wCBF, wCons, wNil, wRef, wNext, wDrop, wAnd, wOr, wNot, wAndV, wOrV, wNotV, wIfE, wNeg, intC, absD, maxD, minD, lenD, wLenM, atDd, atD, mutOf, setMut, agR, agDs, env0, parm, bodyEnds, bodyEndsF, gN, wAsg, exists_eq_left, exists_eq_left', exists_eq, exists_eq', Option.some.injEq, D.int.injEq, Sl.bor.injEq, Sl.own.injEq, Sl.val.injEq, D.bl.injEq, D.str.injEq, D.lst.injEq, D.tup.injEq, and_true, true_and, exists_const, exists_and_left, exists_and_right, List.getElem?_cons_zero, List.getElem?_cons_succ, List.set_cons_zero, List.set_cons_succ, List.length_cons, List.length_nil, decide_eq_true_eq, if_true, if_false, ite_true, ite_false, List.replicate, List.append_nil, List.nil_append, List.cons_append, List.append_eq, atI0, atI1, atI2, ixN0, ixN1, ixN2, ix30, ix31, ix32, Nat.zero_add, Nat.reduceAdd, Nat.reduceSub, Nat.reduceLeDiff, Option.some.injEq, reduceCtorEq, if_pos, List.replicate_succ, List.replicate_zero, wCall, wCallF, wCon, wConF, wLRg1, agR, agDs, wMkE, wExtend, wAppend, wDic, wDNew, wVals, wValE, Ag.vl.injEq, List.cons.injEq, wFor_eq, wIn, wEnum, wLc_eq, wRange, wYes, gTupD, gConsD, gNilD, List.map_cons, List.map_nil, wipeE, wSplit, wSm0, wChain, wSlF, wPart, wNoP, wWhile_eq, wAug, wPar, wPar3, wPopAt, wRaise, wSetD, wSetK, wLenB, wNinB, wTru, wTruB, wVarB, wFld, wSetA, wMake, wMeth, wTold, wParFF, wParVF, wJoin, wLenSet, isN, isNoneD, wInM, Sl.box.injEq, D.dic.injEq, D.ins.injEq, wDun, wInI, wLenI, wBinI, id, wFstr, wJs, wFmt, wInsert, wSetDI, cxK, tupC, listF, restE, List.getD, Option.getD]
    exact k
theorem ok_due (B : Blt mg) (hS : SysB base) (T : DefT K mg "_law_due" S_law_due ["lore", "one", "other", "is_more"]) (D_law_is_in : DefE P w K mg base τ true 1 "_law_is_in" ["lore", "value"] 2 none cIsIn) (D_law_are_rivals : DefE P w K mg base τ true 1 "_law_are_rivals" ["lore", "one", "other"] 3 none cAreR) : DefE P w K mg base τ true 2 "_law_due" ["lore", "one", "other", "is_more"] 4 none cDue := by
  refine def_E (k := 1) T sc_law_due rfl (by decide) fun f cdv A outer s H E c hr hG => ⟨_, (s_cons (s_for (passes_of rfl) rfl (i_in (a_tup (aa_cons (a_var (pv 1)) (aa_cons (a_var (pv 2)) aa_nil)))) (pg_name (i := 4) sc_law_due.nd rfl (by first | exact .inl rfl | exact .inr rfl)) gok_name
      (s_one (s_if (t_not (t_val (a_callD D_law_is_in hr (by omega) hG rfl (takes_of rfl rfl rfl rfl) (aa_cons (a_var (pv 0)) (aa_cons (a_var (pv 4)) aa_nil))) (fun _ h => pt_val h)))
      (s_one (s_ret (a_tup (aa_cons a_str (aa_cons (a_var (pv 4)) aa_nil)))))
      s_nil)))
      (s_cons (s_if (t_w (w_or (t_eq hS hr.units (a_var (pv 1)) (a_var (pv 2))) (w_or1 (t_eq hS hr.units (a_callD D_law_are_rivals hr (by omega) hG rfl (takes_of rfl rfl rfl rfl) (aa_cons (a_var (pv 0)) (aa_cons (a_var (pv 1)) (aa_cons (a_var (pv 2)) aa_nil)))) (a_var (pv 3))))))
      (s_one (s_ret (a_tup (aa_cons a_str (aa_cons (a_tup (aa_cons (a_var (pv 1)) (aa_cons (a_var (pv 2)) aa_nil))) aa_nil)))))
      s_nil)
      (s_one (s_ret (a_tup (aa_cons a_str (aa_cons a_non aa_nil))))))), ?_⟩
  rintro a ds m Qd Xd hl hm ⟨L, x, y, more, rfl, ok, hx, hy, k⟩
  obtain rfl := hm rfl
  obtain ⟨k1, k2, k3⟩ := oneOf2E k
  simp only [wSeqR, wIf, wB, wOp, wOpF, gtD, ltD, geD, leD, intD0, DL.intD, subD, mulD, fdivD, modD, powD, addD, catD, wIxM, wC, wSet, wSetF, wSetM, wRet, wRetF, wRetN, wVar, wFv, wLst, wTup, wCB, wCBF, wCons, wNil, wRef, wNext, wDrop, wAnd, wOr, wNot, wAndV, wOrV, wNotV, wIfE, wNeg, intC, absD, maxD, minD, lenD, wLenM, atDd, atD, mutOf, setMut, agR, agDs, env0, parm, bodyEnds, bodyEndsF, gN, wAsg, exists_eq_left, exists_eq_left', exists_eq, exists_eq', Option.some.injEq, D.int.injEq, Sl.bor.injEq, Sl.own.injEq, Sl.val.injEq, D.bl.injEq, D.str.injEq, D.lst.injEq, D.tup.injEq, and_true, true_and, exists_const, exists_and_left, exists_and_right, List.getElem?_cons_zero, List.getElem?_cons_succ, List.set_cons_zero, List.set_cons_succ, List.length_cons, List.length_nil, decide_eq_true_eq, if_true, if_false, ite_true, ite_false, List.replicate, List.append_nil, List.nil_append, List.cons_append, List.append_eq, atI0, atI1, atI2, ixN0, ixN1, ixN2, ix30, ix31, ix32, Nat.zero_add, Nat.reduceAdd, Nat.reduceSub, Nat.reduceLeDiff, Option.some.injEq, reduceCtorEq, if_pos, List.replicate_succ, List.replicate_zero, wCall, wCallF, wCon, wConF, wLRg1, agR, agDs, wMkE, wExtend, wAppend, wDic, wDNew, wVals, wValE, Ag.vl.injEq, List.cons.injEq, wFor_eq, wIn, wEnum, wLc_eq, wRange, wYes, gTupD, gConsD, gNilD, List.map_cons, List.map_nil, wipeE, wSplit, wSm0, wChain, wSlF, wPart, wNoP, wWhile_eq, wAug, wPar, wPar3, wPopAt, wRaise, wSetD, wSetK, wLenB, wNinB, wTru, wTruB, wVarB, wFld, wSetA, wMake, wMeth, wTold, wParFF, wParVF, wJoin, wLenSet, isN, isNoneD, wInM, Sl.box.injEq, D.dic.injEq, D.ins.injEq, wDun, wInI, wLenI, wBinI, id, wFstr, wJs, wFmt, wInsert, wSetDI, cxK, tupC, listF, restE, List.getD, Option.getD]
  refine ⟨sz, fun i env' => ∃ s4, env' = [.val (dLore L), .val x, .val y, .val (.bl more), s4] ∧ (0 < i → memS L.cl x = true) ∧ (1 < i → memS L.cl y = true), ⟨_, rfl, fun z => absurd z (by omega), fun z => absurd z (by omega)⟩, And.intro ?_ ?_⟩
  · rintro i d env' hd ⟨s4, rfl, h1, h2⟩
    simp only [wSeqR, wIf, wB, wOp, wOpF, gtD, ltD, geD, leD, intD0, DL.intD, subD, mulD, fdivD, modD, powD, addD, catD, wIxM, wC, wSet, wSetF, wSetM, wRet, wRetF, wRetN, wVar, wFv, wLst, wTup, wCB, wCBF, wCons, wNil, wRef, wNext, wDrop, wAnd, wOr, wNot, wAndV, wOrV, wNotV, wIfE, wNeg, intC, absD, maxD, minD, lenD, wLenM, atDd, atD, mutOf, setMut, agR, agDs, env0, parm, bodyEnds, bodyEndsF, gN, wAsg, exists_eq_left, exists_eq_left', exists_eq, exists_eq', Option.some.injEq, D.int.injEq, Sl.bor.injEq, Sl.own.injEq, Sl.val.injEq, D.bl.injEq, D.str.injEq, D.lst.injEq, D.tup.injEq, and_true, true_and, exists_const, exists_and_left, exists_and_right, List.getElem?_cons_zero, List.getElem?_cons_succ, List.set_cons_zero, List.set_cons_succ, List.length_cons, List.length_nil, decide_eq_true_eq, if_true, if_false, ite_true, ite_false, List.replicate, List.append_nil, List.nil_append, List.cons_append, List.append_eq, atI0, atI1, atI2, ixN0, ixN1, ixN2, ix30, ix31, ix32, Nat.zero_add, Nat.reduceAdd, Nat.reduceSub, Nat.reduceLeDiff, Option.some.injEq, reduceCtorEq, if_pos, List.replicate_succ, List.replicate_zero, wCall, wCallF, wCon, wConF, wLRg1, agR, agDs, wMkE, wExtend, wAppend, wDic, wDNew, wVals, wValE, Ag.vl.injEq, List.cons.injEq, wFor_eq, wIn, wEnum, wLc_eq, wRange, wYes, gTupD, gConsD, gNilD, List.map_cons, List.map_nil, wipeE, wSplit, wSm0, wChain, wSlF, wPart, wNoP, wWhile_eq, wAug, wPar, wPar3, wPopAt, wRaise, wSetD, wSetK, wLenB, wNinB, wTru, wTruB, wVarB, wFld, wSetA, wMake, wMeth, wTold, wParFF, wParVF, wJoin, wLenSet, isN, isNoneD, wInM, Sl.box.injEq, D.dic.injEq, D.ins.injEq, wDun, wInI, wLenI, wBinI, id, wFstr, wJs, wFmt, wInsert, wSetDI, cxK, tupC, listF, restE, List.getD, Option.getD]
    match i, hd with
    | 0, hd =>
      cases hd
      refine ⟨L, x, rfl, ok, hx, _, rfl, ?_⟩
      by_cases h : memS L.cl x = true
      · rw [if_neg (by simp [h])]
        exact ⟨fun _ => h, fun z => absurd z (by omega)⟩
      · rw [if_pos (by simp [h])]
        exact ⟨sz, k1 (eq_false_of_ne_true h)⟩
    | 1, hd =>
      cases hd
      refine ⟨L, y, rfl, ok, hy, _, rfl, ?_⟩
      by_cases h : memS L.cl y = true
      · rw [if_neg (by simp [h])]
        exact ⟨fun _ => h1 (by omega), fun _ => h⟩
      · rw [if_pos (by simp [h])]
        exact ⟨sz, k2 (h1 (by omega)) (eq_false_of_ne_true h)⟩
    | n + 2, hd => simp at hd
  · rintro env' ⟨s4, rfl, h1, h2⟩
    have g1 : memS L.cl x = true := h1 (show 0 < 2 by omega)
    have g2 : memS L.cl y = true := h2 (show 1 < 2 by omega)
    clear h1 h2
    obtain ⟨s, rfl, hs⟩ := memS_ex g1
    obtain ⟨t, rfl, ht⟩ := memS_ex g2
    have k := k3 s t rfl rfl hs ht
    (try simp only [restE, List.getD, Option.getD, List.set_cons_zero, List.set_cons_succ, List.getElem?_cons_zero, List.getElem?_cons_succ])
    rw [Rest_cons]
    simp only [wSeqR, wIf, wB, wOp, wOpF, gtD, ltD, geD, leD, intD0, DL.intD, subD, mulD, fdivD, modD, powD, addD, catD, wIxM, wC, wSet, wSetF, wSetM, wRet, wRetF, wRetN, wVar, wFv, wLst, wTup, wCB, wCBF, wCons, wNil, wRef, wNext, wDrop, wAnd, wOr, wNot, wAndV, wOrV, wNotV, wIfE, wNeg, intC, absD, maxD, minD, lenD, wLenM, atDd, atD, mutOf, setMut, agR, agDs, env0, parm, bodyEnds, bodyEndsF, gN, wAsg, exists_eq_left, exists_eq_left', exists_eq, exists_eq', Option.some.injEq, D.int.injEq, Sl.bor.injEq, Sl.own.injEq, Sl.val.injEq, D.bl.injEq, D.str.injEq, D.lst.injEq, D.tup.injEq, and_true, true_and, exists_const, exists_and_left, exists_and_right, List.getElem?_cons_zero, List.getElem?_cons_succ, List.set_cons_zero, List.set_cons_succ, List.length_cons, List.length_nil, decide_eq_true_eq, if_true, if_false, ite_true, ite_false, List.replicate, List.append_nil, List.nil_append, List.cons_append, List.append_eq, atI0, atI1, atI2, ixN0, ixN1, ixN2, ix30, ix31, ix32, Nat.zero_add, Nat.reduceAdd, Nat.reduceSub, Nat.reduceLeDiff, Option.some.injEq, reduceCtorEq, if_pos, List.replicate_succ, List.replicate_zero, wCall, wCallF, wCon, wConF, wLRg1, agR, agDs, wMkE, wExtend, wAppend, wDic, wDNew, wVals, wValE, Ag.vl.injEq, List.cons.injEq, wFor_eq, wIn, wEnum, wLc_eq, wRange, wYes, gTupD, gConsD, gNilD, List.map_cons, List.map_nil, wipeE, wSplit, wSm0, wChain, wSlF, wPart, wNoP, wWhile_eq, wAug, wPar, wPar3, wPopAt, wRaise, wSetD, wSetK, wLenB, wNinB, wTru, wTruB, wVarB, wFld, wSetA, wMake, wMeth, wTold, wParFF, wParVF, wJoin, wLenSet, isN, isNoneD, wInM, Sl.box.injEq, D.dic.injEq, D.ins.injEq, wDun, wInI, wLenI, wBinI, id, wFstr, wJs, wFmt, wInsert, wSetDI, cxK, tupC, listF, restE, List.getD, Option.getD]
    refine eqD_str2 (ok.wd s hs).ok (ok.wd t ht).ok ⟨_, rfl, ?_⟩
    by_cases h3 : s = t
    · rw [if_pos (by simp [h3])] at k
      rw [if_pos (by simp [h3])]
      exact ⟨sz, sz, k⟩
    · rw [if_neg (by simp [h3])]
      refine ⟨L, s, t, rfl, ok, (ok.wd s hs).ok, (ok.wd t ht).ok, eqD_bl ⟨_, rfl, ?_⟩⟩
      by_cases h4 : (arR L.rv s t == more) = true
      · rw [if_pos (by simp [h4])] at k
        rw [if_pos (by simpa using h4)]
        exact ⟨sz, sz, k⟩
      · rw [if_neg (by simp [h3, h4])] at k
        rw [if_neg (by simpa using h4)]
        (try simp only [restE, List.getD, Option.getD, List.set_cons_zero, List.set_cons_succ, List.getElem?_cons_zero, List.getElem?_cons_succ])
        rw [Rest_cons]
        simp only [wSeqR, wIf, wB, wOp, wOpF, gtD, ltD, geD, leD, intD0, DL.intD, subD, mulD, fdivD, modD, powD, addD, catD, wIxM, wC, wSet, wSetF, wSetM, wRet, wRetF, wRetN, wVar, wFv, wLst, wTup, wCB, wCBF, wCons, wNil, wRef, wNext, wDrop, wAnd, wOr, wNot, wAndV, wOrV, wNotV, wIfE, wNeg, intC, absD, maxD, minD, lenD, wLenM, atDd, atD, mutOf, setMut, agR, agDs, env0, parm, bodyEnds, bodyEndsF, gN, wAsg, exists_eq_left, exists_eq_left', exists_eq, exists_eq', Option.some.injEq, D.int.injEq, Sl.bor.injEq, Sl.own.injEq, Sl.val.injEq, D.bl.injEq, D.str.injEq, D.lst.injEq, D.tup.injEq, and_true, true_and, exists_const, exists_and_left, exists_and_right, List.getElem?_cons_zero, List.getElem?_cons_succ, List.set_cons_zero, List.set_cons_succ, List.length_cons, List.length_nil, decide_eq_true_eq, if_true, if_false, ite_true, ite_false, List.replicate, List.append_nil, List.nil_append, List.cons_append, List.append_eq, atI0, atI1, atI2, ixN0, ixN1, ixN2, ix30, ix31, ix32, Nat.zero_add, Nat.reduceAdd, Nat.reduceSub, Nat.reduceLeDiff, Option.some.injEq, reduceCtorEq, if_pos, List.replicate_succ, List.replicate_zero, wCall, wCallF, wCon, wConF, wLRg1, agR, agDs, wMkE, wExtend, wAppend, wDic, wDNew, wVals, wValE, Ag.vl.injEq, List.cons.injEq, wFor_eq, wIn, wEnum, wLc_eq, wRange, wYes, gTupD, gConsD, gNilD, List.map_cons, List.map_nil, wipeE, wSplit, wSm0, wChain, wSlF, wPart, wNoP, wWhile_eq, wAug, wPar, wPar3, wPopAt, wRaise, wSetD, wSetK, wLenB, wNinB, wTru, wTruB, wVarB, wFld, wSetA, wMake, wMeth, wTold, wParFF, wParVF, wJoin, wLenSet, isN, isNoneD, wInM, Sl.box.injEq, D.dic.injEq, D.ins.injEq, wDun, wInI, wLenI, wBinI, id, wFstr, wJs, wFmt, wInsert, wSetDI, cxK, tupC, listF, restE, List.getD, Option.getD]
        exact ⟨sz, k⟩
theorem ok_changed (B : Blt mg) (hS : SysB base) (BC : BookC K C) (IBook : InsK K C) (X : ErrX K mg cls) (TT : ToldT K mg (cls 0)) (T : DefTL K mg base τ "_law_is_changed" S_law_is_changed ["lore", "book", "one", "other", "is_more"]) (D_law_due : DefE P w K mg base τ true 2 "_law_due" ["lore", "one", "other", "is_more"] 4 none cDue)
    (D_law_with : DefE P w K mg base τ true 1 "_law_with" ["lore", "word", "value"] 3 none cWith) (D_law_text : DefE P w K mg base τ true 2 "_law_text" ["lore"] 1 none cText) (D_law_made : DefE P w K mg base τ true 9 "_law_made" ["lore"] 1 none (cMade C))
    (MBook_with_rivals : DefM P w K mg base τ false 9 C "with_rivals" 3 none (cWithR C (cls 2) (cls 4))) (MBook_without_rivals : DefM P w K mg base τ false 9 C "without_rivals" 3 none (cWithoutR C (cls 2) (cls 4)))
    (MBook___eq__ : DefM P w K mg base τ false 1 C "__eq__" 2 none (cEqBk C)) : DefE P w K mg base τ true 12 "_law_is_changed" ["lore", "book", "one", "other", "is_more"] 5 none (cChanged C) := by
  refine def_EL (k := 11) T sc_law_is_changed rfl (by decide) fun f cdv A outer s H E c hr hG TL => ⟨_, (s_cons (s_asg (fun _ h => ps_asg h (pg_tup (n := 2) rfl (pgs_cons (pg_name (i := 5) sc_law_is_changed.nd rfl (by first | exact .inl rfl | exact .inr rfl)) (pgs_cons (pg_name (i := 6) sc_law_is_changed.nd rfl (by first | exact .inl rfl | exact .inr rfl)) pgs_nil)))) ((gokw_tup (n := 2) (vs := [5, 6]) (gsok_cons (gokw_name (vs := [5, 6]) (by decide)) (gsok_cons (gokw_name (vs := [5, 6]) (by decide)) gsok_nil)))).ok (a_told (k := 9) TT rfl TL (hr.mono (by omega)) (lamS_by (sc := defScope S_law_is_changed) (by decide +kernel)) rfl (fun _ _ _ _ _ => rfl) (fun f2 c2 E2 A2 o2 s2 H2 cn2 hr2 => (a_if (t_val (a_var (pv 4)) (fun _ h => pt_val h)) (a_meth MBook_with_rivals (a_var (pv 1)) hr2 (by omega) calm0 (takes_of rfl rfl rfl rfl) (aa_cons (a_var (pv 2)) (aa_cons (a_var (pv 3)) aa_nil))) (a_meth MBook_without_rivals (a_var (pv 1)) hr2 (by omega) calm0 (takes_of rfl rfl rfl rfl) (aa_cons (a_var (pv 2)) (aa_cons (a_var (pv 3)) aa_nil)))))))
      (s_cons (s_asg (fun _ h => ps_asg h (pg_tup (n := 2) rfl (pgs_cons (pg_name (i := 7) sc_law_is_changed.nd rfl (by first | exact .inl rfl | exact .inr rfl)) (pgs_cons (pg_name (i := 8) sc_law_is_changed.nd rfl (by first | exact .inl rfl | exact .inr rfl)) pgs_nil)))) ((gokw_tup (n := 2) (vs := [7, 8]) (gsok_cons (gokw_name (vs := [7, 8]) (by decide)) (gsok_cons (gokw_name (vs := [7, 8]) (by decide)) gsok_nil)))).ok (a_callD D_law_due hr (by omega) hG rfl (takes_of rfl rfl rfl rfl) (aa_cons (a_var (pv 0)) (aa_cons (a_var (pv 2)) (aa_cons (a_var (pv 3)) (aa_cons (a_var (pv 4)) aa_nil))))))
      (s_cons (s_if (t_ne hS hr.units (a_var (pv 7)) a_str)
      (s_cons (s_set (i := 9) sc_law_is_changed.nd rfl (by first | exact .inl rfl | exact .inr rfl) (a_if (t_eq hS hr.units (a_var (pv 7)) a_str) (a_cb (callR_of calli_isi) callD_rC rfl B.isinstance (by decide +kernel) (aa_cons (a_var (pv 5)) (aa_cons (a_globA (pe_glob rfl (X.mg 2 _ rfl) rfl)) aa_nil))) (a_cb (callR_of calli_isi) callD_rC rfl B.isinstance (by decide +kernel) (aa_cons (a_var (pv 5)) (aa_cons (a_globA (pe_glob rfl (X.mg 4 _ rfl) rfl)) aa_nil)))))
      (s_one (s_ret (a_and (a_var (pv 9)) (a_one (a_eq hS hr.units (a_cb (callR_of (calli_repr hS (hG rfl) hr.units)) callD_rC rfl B.repr (by decide +kernel) (aa_cons (a_valE (a_var (pv 5))) aa_nil)) (a_cb (callR_of (calli_repr hS (hG rfl) hr.units)) callD_rC rfl B.repr (by decide +kernel) (aa_cons (a_var (pv 8)) aa_nil))))))))
      s_nil)
      (s_cons (s_setLc (i := 10) (own := [("pair", 12)]) rfl sc_law_is_changed.nd rfl rfl (sw_true rfl rfl rfl (by decide +kernel)) (i_in (a_ix (units1 hr) (a_var (pv 0)) a_str (fun _ _ => rfl))) (blkOk_by (N := ["lore", "book", "one", "other", "is_more", "caught", "told", "word", "value", "is_kind", "rest", "due", "pair"]) (sc := defScope S_law_is_changed) (by decide +kernel)) (fun _ _ _ _ _ => (pg_name (i := 12) sc_law_is_changed.nd rfl (Or.inl rfl))) (fun _ => (GOkW.v (gokw_name (by decide)))) (fun _ _ _ _ _ _ => (ts_one (t_ninP hS (units65 hr) (a_var (pv 12)) (a_tup (aa_cons (a_tup (aa_cons (a_var (pv 2)) (aa_cons (a_var (pv 3)) aa_nil))) (aa_cons (a_tup (aa_cons (a_var (pv 3)) (aa_cons (a_var (pv 2)) aa_nil))) aa_nil)))))) (fun _ _ _ _ _ _ => (a_var (pv 12))))
      (s_cons (s_set (i := 11) sc_law_is_changed.nd rfl (by first | exact .inl rfl | exact .inr rfl) (a_callD D_law_with hr (by omega) hG rfl (takes_of rfl rfl rfl rfl) (aa_cons (a_var (pv 0)) (aa_cons a_str (aa_cons (a_fv (a_cat (a_var (pv 10)) (a_fv (a_rep (a_fv (a_lst (aa_cons (a_tup (aa_cons (a_var (pv 2)) (aa_cons (a_var (pv 3)) aa_nil))) aa_nil))) (a_ct call_int1 calld_int rfl B.int (by decide +kernel) (aa_cons (a_var (pv 4)) aa_nil)))))) aa_nil)))))
      (s_one (s_ret (a_and (a_isN (a_var (pv 5)) a_non) (a_and (a_eq hS hr.units (a_fld (a_var (pv 6))) (a_callD D_law_text hr (by omega) hG rfl (takes_of rfl rfl rfl rfl) (aa_cons (a_var (pv 11)) aa_nil))) (a_one (a_eqI MBook___eq__ hr (by omega) (a_var (pv 6)) (a_callD D_law_made hr (by omega) hG rfl (takes_of rfl rfl rfl rfl) (aa_cons (a_var (pv 11)) aa_nil))))))))))))), ?_⟩
  rintro a ds m Qd Xd hl hm ⟨L, rv, x, y, more, rfl, ok, hpool, hpr, hx, hy, nx, ny, k⟩
  obtain rfl := hm rfl
  simp only [wSeqR, wIf, wB, wOp, wOpF, gtD, ltD, geD, leD, intD0, DL.intD, subD, mulD, fdivD, modD, powD, addD, catD, wIxM, wC, wSet, wSetF, wSetM, wRet, wRetF, wRetN, wVar, wFv, wLst, wTup, wCB, wCBF, wCons, wNil, wRef, wNext, wDrop, wAnd, wOr, wNot, wAndV, wOrV, wNotV, wIfE, wNeg, intC, absD, maxD, minD, lenD, wLenM, atDd, atD, mutOf, setMut, agR, agDs, env0, parm, bodyEnds, bodyEndsF, gN, wAsg, exists_eq_left, exists_eq_left', exists_eq, exists_eq', Option.some.injEq, D.int.injEq, Sl.bor.injEq, Sl.own.injEq, Sl.val.injEq, D.bl.injEq, D.str.injEq, D.lst.injEq, D.tup.injEq, and_true, true_and, exists_const, exists_and_left, exists_and_right, List.getElem?_cons_zero, List.getElem?_cons_succ, List.set_cons_zero, List.set_cons_succ, List.length_cons, List.length_nil, decide_eq_true_eq, if_true, if_false, ite_true, ite_false, List.replicate, List.append_nil, List.nil_append, List.cons_append, List.append_eq, atI0, atI1, atI2, ixN0, ixN1, ixN2, ix30, ix31, ix32, Nat.zero_add, Nat.reduceAdd, Nat.reduceSub, Nat.reduceLeDiff, Option.some.injEq, reduceCtorEq, if_pos, List.replicate_succ, List.replicate_zero, wCall, wCallF, wCon, wConF, wLRg1, agR, agDs, wMkE, wExtend, wAppend, wDic, wDNew, wVals, wValE, Ag.vl.injEq, List.cons.injEq, wFor_eq, wIn, wEnum, wLc_eq, wRange, wYes, gTupD, gConsD, gNilD, List.map_cons, List.map_nil, wipeE, wSplit, wSm0, wChain, wSlF, wPart, wNoP, wWhile_eq, wAug, wPar, wPar3, wPopAt, wRaise, wSetD, wSetK, wLenB, wNinB, wTru, wTruB, wVarB, wFld, wSetA, wMake, wMeth, wTold, wParFF, wParVF, wJoin, wLenSet, isN, isNoneD, wInM, Sl.box.injEq, D.dic.injEq, D.ins.injEq, wDun, wInI, wLenI, wBinI, id, wFstr, wJs, wFmt, wInsert, wSetDI, cxK, tupC, listF, restE, List.getD, Option.getD]
  refine' cut2 (fun c t => [.val (dLore L), .val (dBook C (bkOf L) rv), .val x, .val y, .val (.bl more), .val c, .val t, .un, .un, .un, .un, .un, .un]) (Outc L C cls x y more) ?tail (fun tail => ?main)
  case main =>
    by_cases hmore : more = true
    · rw [if_pos hmore]
      refine ⟨_, _, rfl, rfl, L, rv, x, y, rfl, ok, hpr, hx, hy, oneOf2 (fun h => ?_) (fun s hs h1 h => ?_) fun s u hs hu h1 h2 => ?_⟩
      · exact ⟨X.exm 2 (by decide), _, _, ⟨rfl, rfl⟩, _, _, rfl, rfl, tail _ _ (.inl ⟨h, rfl, rfl⟩)⟩
      · exact ⟨X.exm 2 (by decide), _, _, ⟨rfl, rfl⟩, _, _, rfl, rfl, tail _ _ (.inr (.inl ⟨by rw [hs]; exact memS_str h1, h, rfl, rfl⟩))⟩
      · by_cases hc : (arR L.rv s u || decide (s = u)) = true
        · rw [if_pos hc]
          exact ⟨X.exm 4 (by decide), _, _, ⟨rfl, rfl⟩, _, _, rfl, rfl, tail _ _ (.inr (.inr ⟨s, u, hs, hu, h1, h2, .inl ⟨by rw [hmore, Bool.or_comm]; simpa using hc, rfl, rfl⟩⟩))⟩
        · rw [if_neg hc]
          intro rv' hp' ha'
          have hc2 := eq_false_of_ne_true hc
          simp only [Bool.or_eq_false_iff, decide_eq_false_iff_not] at hc2
          exact ⟨_, _, ⟨rfl, rfl⟩, _, _, rfl, rfl, tail _ _ (.inr (.inr ⟨s, u, hs, hu, h1, h2, .inr ⟨by rw [hmore]; simp [hc2.1, hc2.2], rfl, L.more (s, u), rv', by rw [if_pos hmore], lore_more ok h1 h2 hc2.2 hc2.1, hp', ha', rfl⟩⟩))⟩
    · rw [if_neg hmore]
      have hmf := eq_false_of_ne_true hmore
      refine ⟨_, _, rfl, rfl, L, rv, x, y, rfl, ok, hpr, hx, hy, oneOf2 (fun h => ?_) (fun s hs h1 h => ?_) fun s u hs hu h1 h2 => ?_⟩
      · exact ⟨X.exm 2 (by decide), _, _, ⟨rfl, rfl⟩, _, _, rfl, rfl, tail _ _ (.inl ⟨h, rfl, rfl⟩)⟩
      · exact ⟨X.exm 2 (by decide), _, _, ⟨rfl, rfl⟩, _, _, rfl, rfl, tail _ _ (.inr (.inl ⟨by rw [hs]; exact memS_str h1, h, rfl, rfl⟩))⟩
      · by_cases hc : arR L.rv s u = false
        · rw [if_pos hc]
          exact ⟨X.exm 4 (by decide), _, _, ⟨rfl, rfl⟩, _, _, rfl, rfl, tail _ _ (.inr (.inr ⟨s, u, hs, hu, h1, h2, .inl ⟨by rw [hmf, hc]; simp, rfl, rfl⟩⟩))⟩
        · rw [if_neg hc]
          intro rv' hp' ha'
          have hne : s ≠ u := fun e => hc (by rw [e]; exact arR_self ok u)
          have hct : arR L.rv s u = true := by simpa using hc
          exact ⟨_, _, ⟨rfl, rfl⟩, _, _, rfl, rfl, tail _ _ (.inr (.inr ⟨s, u, hs, hu, h1, h2, .inr ⟨by rw [hmf, hct]; simp [hne], rfl, L.less s u, rv', by rw [if_neg hmore], lore_less ok, hp', ha', rfl⟩⟩))⟩
  case tail =>
    intro c t hout
    (try simp only [restE, List.getD, Option.getD, List.set_cons_zero, List.set_cons_succ, List.getElem?_cons_zero, List.getElem?_cons_succ])
    rw [Rest_cons]
    simp only [wSeqR, wIf, wB, wOp, wOpF, gtD, ltD, geD, leD, intD0, DL.intD, subD, mulD, fdivD, modD, powD, addD, catD, wIxM, wC, wSet, wSetF, wSetM, wRet, wRetF, wRetN, wVar, wFv, wLst, wTup, wCB, wCBF, wCons, wNil, wRef, wNext, wDrop, wAnd, wOr, wNot, wAndV, wOrV, wNotV, wIfE, wNeg, intC, absD, maxD, minD, lenD, wLenM, atDd, atD, mutOf, setMut, agR, agDs, env0, parm, bodyEnds, bodyEndsF, gN, wAsg, exists_eq_left, exists_eq_left', exists_eq, exists_eq', Option.some.injEq, D.int.injEq, Sl.bor.injEq, Sl.own.injEq, Sl.val.injEq, D.bl.injEq, D.str.injEq, D.lst.injEq, D.tup.injEq, and_true, true_and, exists_const, exists_and_left, exists_and_right, List.getElem?_cons_zero, List.getElem?_cons_succ, List.set_cons_zero, List.set_cons_succ, List.length_cons, List.length_nil, decide_eq_true_eq, if_true, if_false, ite_true, ite_false, List.replicate, List.append_nil, List.nil_append, List.cons_append, List.append_eq, atI0, atI1, atI2, ixN0, ixN1, ixN2, ix30, ix31, ix32, Nat.zero_add, Nat.reduceAdd, Nat.reduceSub, Nat.reduceLeDiff, Option.some.injEq, reduceCtorEq, if_pos, List.replicate_succ, List.replicate_zero, wCall, wCallF, wCon, wConF, wLRg1, agR, agDs, wMkE, wExtend, wAppend, wDic, wDNew, wVals, wValE, Ag.vl.injEq, List.cons.injEq, wFor_eq, wIn, wEnum, wLc_eq, wRange, wYes, gTupD, gConsD, gNilD, List.map_cons, List.map_nil, wipeE, wSplit, wSm0, wChain, wSlF, wPart, wNoP, wWhile_eq, wAug, wPar, wPar3, wPopAt, wRaise, wSetD, wSetK, wLenB, wNinB, wTru, wTruB, wVarB, wFld, wSetA, wMake, wMeth, wTold, wParFF, wParVF, wJoin, wLenSet, isN, isNoneD, wInM, Sl.box.injEq, D.dic.injEq, D.ins.injEq, wDun, wInI, wLenI, wBinI, id, wFstr, wJs, wFmt, wInsert, wSetDI, cxK, tupC, listF, restE, List.getD, Option.getD]
    refine ⟨L, x, y, more, rfl, ok, hx, hy, ?_⟩
    refine' cut1 (α := D × D × Str) (fun q => [.val (dLore L), .val (dBook C (bkOf L) rv), .val x, .val y, .val (.bl more), .val q.1, .val .non, .val (.str q.2.2), .val q.2.1, .un, .un, .un, .un]) (fun q => ((q.2.2 = Str.ofString "client" ∧ q.1 = .err (cls 2) q.2.1) ∨ q.2.2 = Str.ofString "rivals" ∧ q.1 = .err (cls 4) q.2.1) ∧ Nice 5 200 q.2.1) ?errEnd (fun errEnd => ?rest)
    case rest =>
      rcases hout with ⟨h1, rfl, rfl⟩ | ⟨h1, h2, rfl, rfl⟩ | ⟨s, u, rfl, rfl, hs, hu, ⟨hc, rfl, rfl⟩ | ⟨hc, rfl, L', rv', hL', ok', hp', ha', rfl⟩⟩
      · refine oneOf_no h1 ⟨_, rfl, rfl, _, _, rfl, _, _, rfl, rfl, ?_⟩
        exact errEnd (_, x, _) ⟨.inl ⟨rfl, rfl⟩, nx.mono (by omega) (by omega)⟩
      · obtain ⟨s, rfl, hs⟩ := memS_ex h1
        refine oneOf_yes hs (oneOf_no h2 ⟨_, rfl, rfl, _, _, rfl, _, _, rfl, rfl, ?_⟩)
        exact errEnd (_, y, _) ⟨.inl ⟨rfl, rfl⟩, ny.mono (by omega) (by omega)⟩
      · refine oneOf_yes hs (oneOf_yes hu ?_)
        rw [if_pos hc]
        refine ⟨_, rfl, rfl, _, _, rfl, _, _, rfl, rfl, ?_⟩
        exact errEnd (_, .tup [.str s, .str u], _) ⟨.inr ⟨rfl, rfl⟩, (nice_two nx ny).mono (by omega) (by omega)⟩
      · refine oneOf_yes hs (oneOf_yes hu ?_)
        rw [if_neg (by rw [hc]; decide)]
        refine ⟨_, rfl, rfl, _, _, rfl, _, _, rfl, rfl, ?_⟩
        (try simp only [restE, List.getD, Option.getD, List.set_cons_zero, List.set_cons_succ, List.getElem?_cons_zero, List.getElem?_cons_succ])
        rw [Rest_cons]
        simp only [wSeqR, wIf, wB, wOp, wOpF, gtD, ltD, geD, leD, intD0, DL.intD, subD, mulD, fdivD, modD, powD, addD, catD, wIxM, wC, wSet, wSetF, wSetM, wRet, wRetF, wRetN, wVar, wFv, wLst, wTup, wCB, wCBF, wCons, wNil, wRef, wNext, wDrop, wAnd, wOr, wNot, wAndV, wOrV, wNotV, wIfE, wNeg, intC, absD, maxD, minD, lenD, wLenM, atDd, atD, mutOf, setMut, agR, agDs, env0, parm, bodyEnds, bodyEndsF, gN, wAsg, exists_eq_left, exists_eq_left', exists_eq, exists_eq', Option.some.injEq, D.int.injEq, Sl.bor.injEq, Sl.own.injEq, Sl.val.injEq, D.bl.injEq, D.str.injEq, D.lst.injEq, D.tup.injEq, and_true, true_and, exists_const, exists_and_left, exists_and_right, List.getElem?_cons_zero, List.getElem?_cons_succ, List.set_cons_zero, List.set_cons_succ, List.length_cons, List.length_nil, decide_eq_true_eq, if_true, if_false, ite_true, ite_false, List.replicate, List.append_nil, List.nil_append, List.cons_append, List.append_eq, atI0, atI1, atI2, ixN0, ixN1, ixN2, ix30, ix31, ix32, Nat.zero_add, Nat.reduceAdd, Nat.reduceSub, Nat.reduceLeDiff, Option.some.injEq, reduceCtorEq, if_pos, List.replicate_succ, List.replicate_zero, wCall, wCallF, wCon, wConF, wLRg1, agR, agDs, wMkE, wExtend, wAppend, wDic, wDNew, wVals, wValE, Ag.vl.injEq, List.cons.injEq, wFor_eq, wIn, wEnum, wLc_eq, wRange, wYes, gTupD, gConsD, gNilD, List.map_cons, List.map_nil, wipeE, wSplit, wSm0, wChain, wSlF, wPart, wNoP, wWhile_eq, wAug, wPar, wPar3, wPopAt, wRaise, wSetD, wSetK, wLenB, wNinB, wTru, wTruB, wVarB, wFld, wSetA, wMake, wMeth, wTold, wParFF, wParVF, wJoin, wLenSet, isN, isNoneD, wInM, Sl.box.injEq, D.dic.injEq, D.ins.injEq, wDun, wInI, wLenI, wBinI, id, wFstr, wJs, wFmt, wInsert, wSetDI, cxK, tupC, listF, restE, List.getD, Option.getD]
        refine eqD_str2 (by decide +kernel) (by decide +kernel) ⟨_, rfl, ?_⟩
        rw [if_neg (by decide +kernel)]
        (try simp only [restE, List.getD, Option.getD, List.set_cons_zero, List.set_cons_succ, List.getElem?_cons_zero, List.getElem?_cons_succ])
        rw [Rest_cons]
        simp only [wSeqR, wIf, wB, wOp, wOpF, gtD, ltD, geD, leD, intD0, DL.intD, subD, mulD, fdivD, modD, powD, addD, catD, wIxM, wC, wSet, wSetF, wSetM, wRet, wRetF, wRetN, wVar, wFv, wLst, wTup, wCB, wCBF, wCons, wNil, wRef, wNext, wDrop, wAnd, wOr, wNot, wAndV, wOrV, wNotV, wIfE, wNeg, intC, absD, maxD, minD, lenD, wLenM, atDd, atD, mutOf, setMut, agR, agDs, env0, parm, bodyEnds, bodyEndsF, gN, wAsg, exists_eq_left, exists_eq_left', exists_eq, exists_eq', Option.some.injEq, D.int.injEq, Sl.bor.injEq, Sl.own.injEq, Sl.val.injEq, D.bl.injEq, D.str.injEq, D.lst.injEq, D.tup.injEq, and_true, true_and, exists_const, exists_and_left, exists_and_right, List.getElem?_cons_zero, List.getElem?_cons_succ, List.set_cons_zero, List.set_cons_succ, List.length_cons, List.length_nil, decide_eq_true_eq, if_true, if_false, ite_true, ite_false, List.replicate, List.append_nil, List.nil_append, List.cons_append, List.append_eq, atI0, atI1, atI2, ixN0, ixN1, ixN2, ix30, ix31, ix32, Nat.zero_add, Nat.reduceAdd, Nat.reduceSub, Nat.reduceLeDiff, Option.some.injEq, reduceCtorEq, if_pos, List.replicate_succ, List.replicate_zero, wCall, wCallF, wCon, wConF, wLRg1, agR, agDs, wMkE, wExtend, wAppend, wDic, wDNew, wVals, wValE, Ag.vl.injEq, List.cons.injEq, wFor_eq, wIn, wEnum, wLc_eq, wRange, wYes, gTupD, gConsD, gNilD, List.map_cons, List.map_nil, wipeE, wSplit, wSm0, wChain, wSlF, wPart, wNoP, wWhile_eq, wAug, wPar, wPar3, wPopAt, wRaise, wSetD, wSetK, wLenB, wNinB, wTru, wTruB, wVarB, wFld, wSetA, wMake, wMeth, wTold, wParFF, wParVF, wJoin, wLenSet, isN, isNoneD, wInM, Sl.box.injEq, D.dic.injEq, D.ins.injEq, wDun, wInI, wLenI, wBinI, id, wFstr, wJs, wFmt, wInsert, wSetDI, cxK, tupC, listF, restE, List.getD, Option.getD, dLore, dLs]
        have hwp : ∀ p ∈ L.rv, PyData.strOk p.1 = true ∧ PyData.strOk p.2 = true := ok.okp
        have r28 := ok.rv28
        refine ⟨_, rfl, _, dg2, rfl, lc_fm2 L.rv D2 (notP s u) D2 rfl rfl (sl_big (by omega)) (fun p hp acc G hz hG => ?_) ?_⟩
        · simp only [wSeqR, wIf, wB, wOp, wOpF, gtD, ltD, geD, leD, intD0, DL.intD, subD, mulD, fdivD, modD, powD, addD, catD, wIxM, wC, wSet, wSetF, wSetM, wRet, wRetF, wRetN, wVar, wFv, wLst, wTup, wCB, wCBF, wCons, wNil, wRef, wNext, wDrop, wAnd, wOr, wNot, wAndV, wOrV, wNotV, wIfE, wNeg, intC, absD, maxD, minD, lenD, wLenM, atDd, atD, mutOf, setMut, agR, agDs, env0, parm, bodyEnds, bodyEndsF, gN, wAsg, exists_eq_left, exists_eq_left', exists_eq, exists_eq', Option.some.injEq, D.int.injEq, Sl.bor.injEq, Sl.own.injEq, Sl.val.injEq, D.bl.injEq, D.str.injEq, D.lst.injEq, D.tup.injEq, and_true, true_and, exists_const, exists_and_left, exists_and_right, List.getElem?_cons_zero, List.getElem?_cons_succ, List.set_cons_zero, List.set_cons_succ, List.length_cons, List.length_nil, decide_eq_true_eq, if_true, if_false, ite_true, ite_false, List.replicate, List.append_nil, List.nil_append, List.cons_append, List.append_eq, atI0, atI1, atI2, ixN0, ixN1, ixN2, ix30, ix31, ix32, Nat.zero_add, Nat.reduceAdd, Nat.reduceSub, Nat.reduceLeDiff, Option.some.injEq, reduceCtorEq, if_pos, List.replicate_succ, List.replicate_zero, wCall, wCallF, wCon, wConF, wLRg1, agR, agDs, wMkE, wExtend, wAppend, wDic, wDNew, wVals, wValE, Ag.vl.injEq, List.cons.injEq, wFor_eq, wIn, wEnum, wLc_eq, wRange, wYes, gTupD, gConsD, gNilD, List.map_cons, List.map_nil, wipeE, wSplit, wSm0, wChain, wSlF, wPart, wNoP, wWhile_eq, wAug, wPar, wPar3, wPopAt, wRaise, wSetD, wSetK, wLenB, wNinB, wTru, wTruB, wVarB, wFld, wSetA, wMake, wMeth, wTold, wParFF, wParVF, wJoin, wLenSet, isN, isNoneD, wInM, Sl.box.injEq, D.dic.injEq, D.ins.injEq, wDun, wInI, wLenI, wBinI, id, wFstr, wJs, wFmt, wInsert, wSetDI, cxK, tupC, listF, restE, List.getD, Option.getD]
          refine ⟨sz, sz, sz, inP_pairs (neg := true) (c := p) (ms := [(s, u), (u, s)]) (.inr rfl) (hwp p hp) (fun m hm => ?_) ⟨_, rfl, ?_⟩⟩
          · simp only [List.mem_cons, List.not_mem_nil, or_false] at hm
            rcases hm with rfl | rfl
            · exact ⟨(ok.wd s hs).ok, (ok.wd u hu).ok⟩
            · exact ⟨(ok.wd u hu).ok, (ok.wd s hs).ok⟩
          · have e : (if true = true then !decide (p ∈ [(s, u), (u, s)]) else decide (p ∈ [(s, u), (u, s)])) = notP s u p := by simp [notP]
            rw [e]
            by_cases hq : notP s u p = true
            · rw [if_pos hq] at hG
              rw [if_pos hq]
              exact ⟨hz, hG⟩
            · rw [if_neg hq] at hG
              rw [if_neg hq]
              exact hG
        · have hfl : (L.rv.filter (notP s u)).length ≤ 28 := Nat.le_trans (List.length_filter_le _ _) r28
          have hL : ∃ z : List D, (repD (.lst [.tup [.str s, .str u]]) (.int (if more = true then 1 else 0)) = fun K => -(2 ^ 63) ≤ (if more = true then (1 : Int) else 0) ∧ (if more = true then (1 : Int) else 0) < 2 ^ 63 ∧ [D.tup [.str s, .str u]].length * (if more = true then (1 : Int) else 0).toNat ≤ sizeLine ∧ K z) ∧ z.length ≤ 1 ∧ (L.rv.filter (notP s u)).map D2 ++ z = L'.rv.map D2 ∧ L'.cl = L.cl ∧ L'.ks = L.ks := by
            refine ⟨_, rfl, ?_, ?_⟩
            · cases more <;> simp
            · subst hL'
              cases hm : more with
              | true =>
                rw [hm] at hc
                simp only [Bool.or_eq_false_iff, beq_true] at hc
                rw [less_none hc.2]
                simp [Lore.more]
              | false => simp [Lore.less]
          obtain ⟨z, hz1, hz2, hz3, hz4, hz5⟩ := hL
          (try simp only [restE, List.getD, Option.getD, List.set_cons_zero, List.set_cons_succ, List.getElem?_cons_zero, List.getElem?_cons_succ])
          rw [Rest_cons]
          simp only [wSeqR, wIf, wB, wOp, wOpF, gtD, ltD, geD, leD, intD0, DL.intD, subD, mulD, fdivD, modD, powD, addD, catD, wIxM, wC, wSet, wSetF, wSetM, wRet, wRetF, wRetN, wVar, wFv, wLst, wTup, wCB, wCBF, wCons, wNil, wRef, wNext, wDrop, wAnd, wOr, wNot, wAndV, wOrV, wNotV, wIfE, wNeg, intC, absD, maxD, minD, lenD, wLenM, atDd, atD, mutOf, setMut, agR, agDs, env0, parm, bodyEnds, bodyEndsF, gN, wAsg, exists_eq_left, exists_eq_left', exists_eq, exists_eq', Option.some.injEq, D.int.injEq, Sl.bor.injEq, Sl.own.injEq, Sl.val.injEq, D.bl.injEq, D.str.injEq, D.lst.injEq, D.tup.injEq, and_true, true_and, exists_const, exists_and_left, exists_and_right, List.getElem?_cons_zero, List.getElem?_cons_succ, List.set_cons_zero, List.set_cons_succ, List.length_cons, List.length_nil, decide_eq_true_eq, if_true, if_false, ite_true, ite_false, List.replicate, List.append_nil, List.nil_append, List.cons_append, List.append_eq, atI0, atI1, atI2, ixN0, ixN1, ixN2, ix30, ix31, ix32, Nat.zero_add, Nat.reduceAdd, Nat.reduceSub, Nat.reduceLeDiff, Option.some.injEq, reduceCtorEq, if_pos, List.replicate_succ, List.replicate_zero, wCall, wCallF, wCon, wConF, wLRg1, agR, agDs, wMkE, wExtend, wAppend, wDic, wDNew, wVals, wValE, Ag.vl.injEq, List.cons.injEq, wFor_eq, wIn, wEnum, wLc_eq, wRange, wYes, gTupD, gConsD, gNilD, List.map_cons, List.map_nil, wipeE, wSplit, wSm0, wChain, wSlF, wPart, wNoP, wWhile_eq, wAug, wPar, wPar3, wPopAt, wRaise, wSetD, wSetK, wLenB, wNinB, wTru, wTruB, wVarB, wFld, wSetA, wMake, wMeth, wTold, wParFF, wParVF, wJoin, wLenSet, isN, isNoneD, wInM, Sl.box.injEq, D.dic.injEq, D.ins.injEq, wDun, wInI, wLenI, wBinI, id, wFstr, wJs, wFmt, wInsert, wSetDI, cxK, tupC, listF, restE, List.getD, Option.getD]
          rw [hz1]
          refine ⟨sz, sz, by cases more <;> simp, by cases more <;> simp, sl_big (by cases more <;> simp), sl_big (by rw [List.length_map]; omega), L, .inl ⟨L'.rv, by rw [hz3]; rfl, ?_⟩⟩
          obtain ⟨hT', hR'⟩ := lore_text ok'
          (try simp only [restE, List.getD, Option.getD, List.set_cons_zero, List.set_cons_succ, List.getElem?_cons_zero, List.getElem?_cons_succ])
          rw [Rest_cons]
          simp only [wSeqR, wIf, wB, wOp, wOpF, gtD, ltD, geD, leD, intD0, DL.intD, subD, mulD, fdivD, modD, powD, addD, catD, wIxM, wC, wSet, wSetF, wSetM, wRet, wRetF, wRetN, wVar, wFv, wLst, wTup, wCB, wCBF, wCons, wNil, wRef, wNext, wDrop, wAnd, wOr, wNot, wAndV, wOrV, wNotV, wIfE, wNeg, intC, absD, maxD, minD, lenD, wLenM, atDd, atD, mutOf, setMut, agR, agDs, env0, parm, bodyEnds, bodyEndsF, gN, wAsg, exists_eq_left, exists_eq_left', exists_eq, exists_eq', Option.some.injEq, D.int.injEq, Sl.bor.injEq, Sl.own.injEq, Sl.val.injEq, D.bl.injEq, D.str.injEq, D.lst.injEq, D.tup.injEq, and_true, true_and, exists_const, exists_and_left, exists_and_right, List.getElem?_cons_zero, List.getElem?_cons_succ, List.set_cons_zero, List.set_cons_succ, List.length_cons, List.length_nil, decide_eq_true_eq, if_true, if_false, ite_true, ite_false, List.replicate, List.append_nil, List.nil_append, List.cons_append, List.append_eq, atI0, atI1, atI2, ixN0, ixN1, ixN2, ix30, ix31, ix32, Nat.zero_add, Nat.reduceAdd, Nat.reduceSub, Nat.reduceLeDiff, Option.some.injEq, reduceCtorEq, if_pos, List.replicate_succ, List.replicate_zero, wCall, wCallF, wCon, wConF, wLRg1, agR, agDs, wMkE, wExtend, wAppend, wDic, wDNew, wVals, wValE, Ag.vl.injEq, List.cons.injEq, wFor_eq, wIn, wEnum, wLc_eq, wRange, wYes, gTupD, gConsD, gNilD, List.map_cons, List.map_nil, wipeE, wSplit, wSm0, wChain, wSlF, wPart, wNoP, wWhile_eq, wAug, wPar, wPar3, wPopAt, wRaise, wSetD, wSetK, wLenB, wNinB, wTru, wTruB, wVarB, wFld, wSetA, wMake, wMeth, wTold, wParFF, wParVF, wJoin, wLenSet, isN, isNoneD, wInM, Sl.box.injEq, D.dic.injEq, D.ins.injEq, wDun, wInI, wLenI, wBinI, id, wFstr, wJs, wFmt, wInsert, wSetDI, cxK, tupC, listF, restE, List.getD, Option.getD]
          have e : ({ cl := L.cl, rv := L'.rv, ks := L.ks } : Lore) = L' := by rw [← hz4, ← hz5]
          rw [e]
          have notf : PySem.W.notFirst K C (.ref C) = true := by unfold PySem.W.notFirst; simp
          refine ⟨C, _, _, rfl, ⟨BC.cls, BC.na _ (by decide)⟩, _, rfl, L', rfl, ok', eqD_str2 hT'.ok hT'.ok ⟨_, rfl, ?_⟩⟩
          rw [if_pos (by simp [bkOf])]
          refine ⟨L', rfl, ok', fun rv2 hp2 ha2 => ?_⟩
          refine ⟨⟨_, _, rfl⟩, _, .ins _ _, notf, bkOf L', rv', _, rfl, .inr ⟨bkOf L', rv2, rfl, hT'.ok, hT'.ok, _, rfl, ?_⟩⟩
          rw [decide_eq_true rfl]
          exact k
    case errEnd =>
      rintro ⟨c, z, wd⟩ ⟨hw, hz⟩
      (try simp only [restE, List.getD, Option.getD, List.set_cons_zero, List.set_cons_succ, List.getElem?_cons_zero, List.getElem?_cons_succ])
      rw [Rest_cons]
      simp only [wSeqR, wIf, wB, wOp, wOpF, gtD, ltD, geD, leD, intD0, DL.intD, subD, mulD, fdivD, modD, powD, addD, catD, wIxM, wC, wSet, wSetF, wSetM, wRet, wRetF, wRetN, wVar, wFv, wLst, wTup, wCB, wCBF, wCons, wNil, wRef, wNext, wDrop, wAnd, wOr, wNot, wAndV, wOrV, wNotV, wIfE, wNeg, intC, absD, maxD, minD, lenD, wLenM, atDd, atD, mutOf, setMut, agR, agDs, env0, parm, bodyEnds, bodyEndsF, gN, wAsg, exists_eq_left, exists_eq_left', exists_eq, exists_eq', Option.some.injEq, D.int.injEq, Sl.bor.injEq, Sl.own.injEq, Sl.val.injEq, D.bl.injEq, D.str.injEq, D.lst.injEq, D.tup.injEq, and_true, true_and, exists_const, exists_and_left, exists_and_right, List.getElem?_cons_zero, List.getElem?_cons_succ, List.set_cons_zero, List.set_cons_succ, List.length_cons, List.length_nil, decide_eq_true_eq, if_true, if_false, ite_true, ite_false, List.replicate, List.append_nil, List.nil_append, List.cons_append, List.append_eq, atI0, atI1, atI2, ixN0, ixN1, ixN2, ix30, ix31, ix32, Nat.zero_add, Nat.reduceAdd, Nat.reduceSub, Nat.reduceLeDiff, Option.some.injEq, reduceCtorEq, if_pos, List.replicate_succ, List.replicate_zero, wCall, wCallF, wCon, wConF, wLRg1, agR, agDs, wMkE, wExtend, wAppend, wDic, wDNew, wVals, wValE, Ag.vl.injEq, List.cons.injEq, wFor_eq, wIn, wEnum, wLc_eq, wRange, wYes, gTupD, gConsD, gNilD, List.map_cons, List.map_nil, wipeE, wSplit, wSm0, wChain, wSlF, wPart, wNoP, wWhile_eq, wAug, wPar, wPar3, wPopAt, wRaise, wSetD, wSetK, wLenB, wNinB, wTru, wTruB, wVarB, wFld, wSetA, wMake, wMeth, wTold, wParFF, wParVF, wJoin, wLenSet, isN, isNoneD, wInM, Sl.box.injEq, D.dic.injEq, D.ins.injEq, wDun, wInI, wLenI, wBinI, id, wFstr, wJs, wFmt, wInsert, wSetDI, cxK, tupC, listF, restE, List.getD, Option.getD]
      have hz : Nice 5 200 z := hz
      have hw : (wd = Str.ofString "client" ∧ c = .err (cls 2) z) ∨ wd = Str.ofString "rivals" ∧ c = .err (cls 4) z := hw
      rcases hw with ⟨rfl, rfl⟩ | ⟨rfl, rfl⟩
      · refine eqD_str2 (by decide +kernel) (by decide +kernel) ⟨_, rfl, ?_⟩
        rw [if_pos (by decide +kernel)]
        refine eqD_str2 (by decide +kernel) (by decide +kernel) ⟨_, rfl, ?_⟩
        rw [if_pos (by decide +kernel)]
        refine isi_err (X.ec 2 (by decide)) (X.kit 2 (by decide)) ?_
        (try simp only [restE, List.getD, Option.getD, List.set_cons_zero, List.set_cons_succ, List.getElem?_cons_zero, List.getElem?_cons_succ])
        rw [Rest_cons]
        simp only [wSeqR, wIf, wB, wOp, wOpF, gtD, ltD, geD, leD, intD0, DL.intD, subD, mulD, fdivD, modD, powD, addD, catD, wIxM, wC, wSet, wSetF, wSetM, wRet, wRetF, wRetN, wVar, wFv, wLst, wTup, wCB, wCBF, wCons, wNil, wRef, wNext, wDrop, wAnd, wOr, wNot, wAndV, wOrV, wNotV, wIfE, wNeg, intC, absD, maxD, minD, lenD, wLenM, atDd, atD, mutOf, setMut, agR, agDs, env0, parm, bodyEnds, bodyEndsF, gN, wAsg, exists_eq_left, exists_eq_left', exists_eq, exists_eq', Option.some.injEq, D.int.injEq, Sl.bor.injEq, Sl.own.injEq, Sl.val.injEq, D.bl.injEq, D.str.injEq, D.lst.injEq, D.tup.injEq, and_true, true_and, exists_const, exists_and_left, exists_and_right, List.getElem?_cons_zero, List.getElem?_cons_succ, List.set_cons_zero, List.set_cons_succ, List.length_cons, List.length_nil, decide_eq_true_eq, if_true, if_false, ite_true, ite_false, List.replicate, List.append_nil, List.nil_append, List.cons_append, List.append_eq, atI0, atI1, atI2, ixN0, ixN1, ixN2, ix30, ix31, ix32, Nat.zero_add, Nat.reduceAdd, Nat.reduceSub, Nat.reduceLeDiff, Option.some.injEq, reduceCtorEq, if_pos, List.replicate_succ, List.replicate_zero, wCall, wCallF, wCon, wConF, wLRg1, agR, agDs, wMkE, wExtend, wAppend, wDic, wDNew, wVals, wValE, Ag.vl.injEq, List.cons.injEq, wFor_eq, wIn, wEnum, wLc_eq, wRange, wYes, gTupD, gConsD, gNilD, List.map_cons, List.map_nil, wipeE, wSplit, wSm0, wChain, wSlF, wPart, wNoP, wWhile_eq, wAug, wPar, wPar3, wPopAt, wRaise, wSetD, wSetK, wLenB, wNinB, wTru, wTruB, wVarB, wFld, wSetA, wMake, wMeth, wTold, wParFF, wParVF, wJoin, wLenSet, isN, isNoneD, wInM, Sl.box.injEq, D.dic.injEq, D.ins.injEq, wDun, wInI, wLenI, wBinI, id, wFstr, wJs, wFmt, wInsert, wSetDI, cxK, tupC, listF, restE, List.getD, Option.getD]
        exact ⟨_, _, rfl, ⟨X.ec 2 (by decide), X.nv 2 (by decide)⟩, repr_eq_same hz rfl (by decide) (by decide) k⟩
      · refine eqD_str2 (by decide +kernel) (by decide +kernel) ⟨_, rfl, ?_⟩
        rw [if_pos (by decide +kernel)]
        refine eqD_str2 (by decide +kernel) (by decide +kernel) ⟨_, rfl, ?_⟩
        rw [if_neg (by decide +kernel)]
        refine isi_err (X.ec 4 (by decide)) (X.kit 4 (by decide)) ?_
        (try simp only [restE, List.getD, Option.getD, List.set_cons_zero, List.set_cons_succ, List.getElem?_cons_zero, List.getElem?_cons_succ])
        rw [Rest_cons]
        simp only [wSeqR, wIf, wB, wOp, wOpF, gtD, ltD, geD, leD, intD0, DL.intD, subD, mulD, fdivD, modD, powD, addD, catD, wIxM, wC, wSet, wSetF, wSetM, wRet, wRetF, wRetN, wVar, wFv, wLst, wTup, wCB, wCBF, wCons, wNil, wRef, wNext, wDrop, wAnd, wOr, wNot, wAndV, wOrV, wNotV, wIfE, wNeg, intC, absD, maxD, minD, lenD, wLenM, atDd, atD, mutOf, setMut, agR, agDs, env0, parm, bodyEnds, bodyEndsF, gN, wAsg, exists_eq_left, exists_eq_left', exists_eq, exists_eq', Option.some.injEq, D.int.injEq, Sl.bor.injEq, Sl.own.injEq, Sl.val.injEq, D.bl.injEq, D.str.injEq, D.lst.injEq, D.tup.injEq, and_true, true_and, exists_const, exists_and_left, exists_and_right, List.getElem?_cons_zero, List.getElem?_cons_succ, List.set_cons_zero, List.set_cons_succ, List.length_cons, List.length_nil, decide_eq_true_eq, if_true, if_false, ite_true, ite_false, List.replicate, List.append_nil, List.nil_append, List.cons_append, List.append_eq, atI0, atI1, atI2, ixN0, ixN1, ixN2, ix30, ix31, ix32, Nat.zero_add, Nat.reduceAdd, Nat.reduceSub, Nat.reduceLeDiff, Option.some.injEq, reduceCtorEq, if_pos, List.replicate_succ, List.replicate_zero, wCall, wCallF, wCon, wConF, wLRg1, agR, agDs, wMkE, wExtend, wAppend, wDic, wDNew, wVals, wValE, Ag.vl.injEq, List.cons.injEq, wFor_eq, wIn, wEnum, wLc_eq, wRange, wYes, gTupD, gConsD, gNilD, List.map_cons, List.map_nil, wipeE, wSplit, wSm0, wChain, wSlF, wPart, wNoP, wWhile_eq, wAug, wPar, wPar3, wPopAt, wRaise, wSetD, wSetK, wLenB, wNinB, wTru, wTruB, wVarB, wFld, wSetA, wMake, wMeth, wTold, wParFF, wParVF, wJoin, wLenSet, isN, isNoneD, wInM, Sl.box.injEq, D.dic.injEq, D.ins.injEq, wDun, wInI, wLenI, wBinI, id, wFstr, wJs, wFmt, wInsert, wSetDI, cxK, tupC, listF, restE, List.getD, Option.getD]
        exact ⟨_, _, rfl, ⟨X.ec 4 (by decide), X.nv 4 (by decide)⟩, repr_eq_same hz rfl (by decide) (by decide) k⟩
theorem ok_right (B : Blt mg) (hS : SysB base) (BC : BookC K C) (T : DefT K mg "_law_right" S_law_right ["pot"]) (D_law_lore : DefE P w K mg base τ true 4 "_law_lore" ["pot", "few", "most", "kinds"] 4 (some 0) cLore) (D_law_made : DefE P w K mg base τ true 9 "_law_made" ["lore"] 1 none (cMade C))
    (D_law_text : DefE P w K mg base τ true 2 "_law_text" ["lore"] 1 none cText) (D_law_odd : DefE P w K mg base τ true 3 "_law_odd" ["pot"] 1 (some 0) cOdd)
    (D_law_is_changed : DefE P w K mg base τ true 12 "_law_is_changed" ["lore", "book", "one", "other", "is_more"] 5 none (cChanged C)) : DefE P w K mg base τ true 13 "_law_right" ["pot"] 1 (some 0) cRight := by
  refine def_E (k := 12) T sc_law_right rfl (by decide) fun f cdv A outer s H E c hr hG => ⟨_, (s_cons (s_set (i := 1) sc_law_right.nd rfl (by first | exact .inl rfl | exact .inr rfl) (a_callD D_law_lore hr (by omega) hG rfl (takes_of rfl rfl rfl rfl) (aa_ref (pv 0) (aa_cons a_int (aa_cons a_int (aa_cons a_int aa_nil))))))
      (s_cons (s_asg (fun _ h => ps_asg h (pg_tup (n := 2) rfl (pgs_cons (pg_name (i := 2) sc_law_right.nd rfl (by first | exact .inl rfl | exact .inr rfl)) (pgs_cons (pg_name (i := 3) sc_law_right.nd rfl (by first | exact .inl rfl | exact .inr rfl)) pgs_nil)))) ((gokw_tup (n := 2) (vs := [2, 3]) (gsok_cons (gokw_name (vs := [2, 3]) (by decide)) (gsok_cons (gokw_name (vs := [2, 3]) (by decide)) gsok_nil)))).ok (a_tup (aa_cons (a_callD D_law_made hr (by omega) hG rfl (takes_of rfl rfl rfl rfl) (aa_cons (a_var (pv 1)) aa_nil)) (aa_cons (a_fv (a_cat (a_fv (a_slF (a_ix (units1 hr) (a_var (pv 1)) a_str (fun _ _ => rfl)) o_none (o_some a_int))) (a_fv (a_lst (aa_cons a_str (aa_cons a_non (aa_cons a_int (aa_cons (a_callD D_law_odd hr (by omega) hG rfl (takes_of rfl rfl rfl rfl) (aa_ref (pv 0) aa_nil)) aa_nil)))))))) aa_nil))))
      (s_cons (s_for (passes_of rfl) rfl (i_in (a_var (pv 3))) (pg_name (i := 4) sc_law_right.nd rfl (by first | exact .inl rfl | exact .inr rfl)) gok_name
      (s_one (s_for (passes_of rfl) rfl (i_in (a_var (pv 3))) (pg_name (i := 5) sc_law_right.nd rfl (by first | exact .inl rfl | exact .inr rfl)) gok_name
      (s_one (s_if (t_not (t_val (a_cb (cr_all rfl) calld_all rfl B.all (by decide +kernel) (aa_cons (a_fv (a_lc (own := [("is_more", 6)]) rfl sc_law_right.nd (i_in (a_tup (aa_cons a_bl (aa_cons a_bl aa_nil)))) (blkOk_by (N := ["pot", "lore", "book", "some", "one", "other", "is_more"]) (sc := defScope S_law_right) (by decide +kernel)) (fun _ _ _ _ _ => (pg_name (i := 6) sc_law_right.nd rfl (Or.inl rfl))) (fun _ => (GOkW.v (gokw_name (by decide)))) (fun _ _ _ _ _ _ => ts_nil) (fun _ _ _ _ _ _ => (a_callD D_law_is_changed hr (by omega) hG rfl L2.takes0 (aa_cons (a_var (pv 1)) (aa_cons (a_var (pv 2)) (aa_cons (a_var (pv 4)) (aa_cons (a_var (pv 5)) (aa_cons (a_var (pv 6)) aa_nil))))))))) aa_nil)) (fun _ h => pt_val h)))
      (s_one (s_ret a_bl))
      s_nil)))))
      (s_one (s_ret (a_eq hS hr.units (a_fld (a_var (pv 2))) (a_callD D_law_text hr (by omega) hG rfl (takes_of rfl rfl rfl rfl) (aa_cons (a_var (pv 1)) aa_nil)))))))), ?_⟩
  rintro a ds m Qd Xd hl hm ⟨n, rfl, hp, hn, k⟩
  simp only [wSeqR, wIf, wB, wOp, wOpF, gtD, ltD, geD, leD, intD0, DL.intD, subD, mulD, fdivD, modD, powD, addD, catD, wIxM, wC, wSet, wSetF, wSetM, wRet, wRetF, wRetN, wVar, wFv, wLst, wTup, wCB, wCBF, wCons, wNil, wRef, wNext, wDrop, wAnd, wOr, wNot, wAndV, wOrV, wNotV, wIfE, wNeg, intC, absD, maxD, minD, lenD, wLenM, atDd, atD, mutOf, setMut, agR, agDs, env0, parm, bodyEnds, bodyEndsF, gN, wAsg, exists_eq_left, exists_eq_left', exists_eq, exists_eq', Option.some.injEq, D.int.injEq, Sl.bor.injEq, Sl.own.injEq, Sl.val.injEq, D.bl.injEq, D.str.injEq, D.lst.injEq, D.tup.injEq, and_true, true_and, exists_const, exists_and_left, exists_and_right, List.getElem?_cons_zero, List.getElem?_cons_succ, List.set_cons_zero, List.set_cons_succ, List.length_cons, List.length_nil, decide_eq_true_eq, if_true, if_false, ite_true, ite_false, List.replicate, List.append_nil, List.nil_append, List.cons_append, List.append_eq, atI0, atI1, atI2, ixN0, ixN1, ixN2, ix30, ix31, ix32, Nat.zero_add, Nat.reduceAdd, Nat.reduceSub, Nat.reduceLeDiff, Option.some.injEq, reduceCtorEq, if_pos, List.replicate_succ, List.replicate_zero, wCall, wCallF, wCon, wConF, wLRg1, agR, agDs, wMkE, wExtend, wAppend, wDic, wDNew, wVals, wValE, Ag.vl.injEq, List.cons.injEq, wFor_eq, wIn, wEnum, wLc_eq, wRange, wYes, gTupD, gConsD, gNilD, List.map_cons, List.map_nil, wipeE, wSplit, wSm0, wChain, wSlF, wPart, wNoP, wWhile_eq, wAug, wPar, wPar3, wPopAt, wRaise, wSetD, wSetK, wLenB, wNinB, wTru, wTruB, wVarB, wFld, wSetA, wMake, wMeth, wTold, wParFF, wParVF, wJoin, wLenSet, isN, isNoneD, wInM, Sl.box.injEq, D.dic.injEq, D.ins.injEq, wDun, wInI, wLenI, wBinI, id, wFstr, wJs, wFmt, wInsert, wSetDI, cxK, tupC, listF, restE, List.getD, Option.getD]
  refine ⟨n, 2, 8, 3, rfl, hp, by omega, by decide, by decide, by decide, by decide, by decide, fun L m1 ok hpool hkp hp1 => ?_⟩
  (try simp only [restE, List.getD, Option.getD, List.set_cons_zero, List.set_cons_succ, List.getElem?_cons_zero, List.getElem?_cons_succ])
  rw [Rest_cons]
  simp only [wSeqR, wIf, wB, wOp, wOpF, gtD, ltD, geD, leD, intD0, DL.intD, subD, mulD, fdivD, modD, powD, addD, catD, wIxM, wC, wSet, wSetF, wSetM, wRet, wRetF, wRetN, wVar, wFv, wLst, wTup, wCB, wCBF, wCons, wNil, wRef, wNext, wDrop, wAnd, wOr, wNot, wAndV, wOrV, wNotV, wIfE, wNeg, intC, absD, maxD, minD, lenD, wLenM, atDd, atD, mutOf, setMut, agR, agDs, env0, parm, bodyEnds, bodyEndsF, gN, wAsg, exists_eq_left, exists_eq_left', exists_eq, exists_eq', Option.some.injEq, D.int.injEq, Sl.bor.injEq, Sl.own.injEq, Sl.val.injEq, D.bl.injEq, D.str.injEq, D.lst.injEq, D.tup.injEq, and_true, true_and, exists_const, exists_and_left, exists_and_right, List.getElem?_cons_zero, List.getElem?_cons_succ, List.set_cons_zero, List.set_cons_succ, List.length_cons, List.length_nil, decide_eq_true_eq, if_true, if_false, ite_true, ite_false, List.replicate, List.append_nil, List.nil_append, List.cons_append, List.append_eq, atI0, atI1, atI2, ixN0, ixN1, ixN2, ix30, ix31, ix32, Nat.zero_add, Nat.reduceAdd, Nat.reduceSub, Nat.reduceLeDiff, Option.some.injEq, reduceCtorEq, if_pos, List.replicate_succ, List.replicate_zero, wCall, wCallF, wCon, wConF, wLRg1, agR, agDs, wMkE, wExtend, wAppend, wDic, wDNew, wVals, wValE, Ag.vl.injEq, List.cons.injEq, wFor_eq, wIn, wEnum, wLc_eq, wRange, wYes, gTupD, gConsD, gNilD, List.map_cons, List.map_nil, wipeE, wSplit, wSm0, wChain, wSlF, wPart, wNoP, wWhile_eq, wAug, wPar, wPar3, wPopAt, wRaise, wSetD, wSetK, wLenB, wNinB, wTru, wTruB, wVarB, wFld, wSetA, wMake, wMeth, wTold, wParFF, wParVF, wJoin, wLenSet, isN, isNoneD, wInM, Sl.box.injEq, D.dic.injEq, D.ins.injEq, wDun, wInI, wLenI, wBinI, id, wFstr, wJs, wFmt, wInsert, wSetDI, cxK, tupC, listF, restE, List.getD, Option.getD]
  refine ⟨L, rfl, ok, fun rv hpr asc => ?_⟩
  simp only [wSeqR, wIf, wB, wOp, wOpF, gtD, ltD, geD, leD, intD0, DL.intD, subD, mulD, fdivD, modD, powD, addD, catD, wIxM, wC, wSet, wSetF, wSetM, wRet, wRetF, wRetN, wVar, wFv, wLst, wTup, wCB, wCBF, wCons, wNil, wRef, wNext, wDrop, wAnd, wOr, wNot, wAndV, wOrV, wNotV, wIfE, wNeg, intC, absD, maxD, minD, lenD, wLenM, atDd, atD, mutOf, setMut, agR, agDs, env0, parm, bodyEnds, bodyEndsF, gN, wAsg, exists_eq_left, exists_eq_left', exists_eq, exists_eq', Option.some.injEq, D.int.injEq, Sl.bor.injEq, Sl.own.injEq, Sl.val.injEq, D.bl.injEq, D.str.injEq, D.lst.injEq, D.tup.injEq, and_true, true_and, exists_const, exists_and_left, exists_and_right, List.getElem?_cons_zero, List.getElem?_cons_succ, List.set_cons_zero, List.set_cons_succ, List.length_cons, List.length_nil, decide_eq_true_eq, if_true, if_false, ite_true, ite_false, List.replicate, List.append_nil, List.nil_append, List.cons_append, List.append_eq, atI0, atI1, atI2, ixN0, ixN1, ixN2, ix30, ix31, ix32, Nat.zero_add, Nat.reduceAdd, Nat.reduceSub, Nat.reduceLeDiff, Option.some.injEq, reduceCtorEq, if_pos, List.replicate_succ, List.replicate_zero, wCall, wCallF, wCon, wConF, wLRg1, agR, agDs, wMkE, wExtend, wAppend, wDic, wDNew, wVals, wValE, Ag.vl.injEq, List.cons.injEq, wFor_eq, wIn, wEnum, wLc_eq, wRange, wYes, gTupD, gConsD, gNilD, List.map_cons, List.map_nil, wipeE, wSplit, wSm0, wChain, wSlF, wPart, wNoP, wWhile_eq, wAug, wPar, wPar3, wPopAt, wRaise, wSetD, wSetK, wLenB, wNinB, wTru, wTruB, wVarB, wFld, wSetA, wMake, wMeth, wTold, wParFF, wParVF, wJoin, wLenSet, isN, isNoneD, wInM, Sl.box.injEq, D.dic.injEq, D.ins.injEq, wDun, wInI, wLenI, wBinI, id, wFstr, wJs, wFmt, wInsert, wSetDI, cxK, tupC, listF, restE, List.getD, Option.getD, dLore, dLs]
  refine ⟨_, rfl, _, dg1, ?_⟩
  have hcl := ok.good.le
  have hcut : ∀ d ∈ DL.cutD (L.cl.map D.str) none (some 4), ∃ c ∈ L.cl, d = .str c := fun d hd => by
    rw [show DL.cutD (L.cl.map D.str) none (some 4) = (L.cl.map D.str).take 4 from cutD_take _ 4] at hd
    obtain ⟨c, hc, rfl⟩ := List.mem_map.mp (List.mem_of_mem_take hd)
    exact ⟨c, hc, rfl⟩
  have hcl4 : (DL.cutD (L.cl.map D.str) none (some 4)).length ≤ 4 := by
    rw [show DL.cutD (L.cl.map D.str) none (some 4) = (L.cl.map D.str).take 4 from cutD_take _ 4, List.length_take]
    omega
  refine ⟨_, rfl, n + 400, rfl, hp1, by omega, fun odd m2 ho1 ho2 hp2 => ⟨sz, sl_big (by omega), sz, _, _, ⟨rfl, rfl⟩, _, _, rfl, rfl, ?_⟩⟩
  have hall : ∀ d ∈ DL.cutD (L.cl.map D.str) none (some 4) ++ [D.str (Str.ofString "nobody"), D.non, D.int 0, odd], OddV d ∧ Nice 4 60 d := fun d hd => by
    rcases List.mem_append.mp hd with h | h
    · obtain ⟨c, hc, rfl⟩ := hcut d h
      exact ⟨odd_str (ok.wd c hc).ok, (nice_of (List.all_eq_true.mp (by decide +kernel : pool.all (fun c => niceB 0 12 (D.str c)) = true) c (hpool c hc))).mono (by omega) (by omega)⟩
    · simp only [List.mem_cons, List.not_mem_nil, or_false] at h
      rcases h with rfl | rfl | rfl | rfl
      · exact ⟨odd_of (by decide +kernel), nice_of (by decide +kernel)⟩
      · exact ⟨odd_of (by decide +kernel), nice_of (by decide +kernel)⟩
      · exact ⟨odd_of (by decide +kernel), nice_of (by decide +kernel)⟩
      · exact ⟨ho1, ho2⟩
  revert hall
  generalize DL.cutD (L.cl.map D.str) none (some 4) ++ [D.str (Str.ofString "nobody"), D.non, D.int 0, odd] = l
  intro hall
  (try simp only [restE, List.getD, Option.getD, List.set_cons_zero, List.set_cons_succ, List.getElem?_cons_zero, List.getElem?_cons_succ])
  rw [Rest_cons]
  simp only [wSeqR, wIf, wB, wOp, wOpF, gtD, ltD, geD, leD, intD0, DL.intD, subD, mulD, fdivD, modD, powD, addD, catD, wIxM, wC, wSet, wSetF, wSetM, wRet, wRetF, wRetN, wVar, wFv, wLst, wTup, wCB, wCBF, wCons, wNil, wRef, wNext, wDrop, wAnd, wOr, wNot, wAndV, wOrV, wNotV, wIfE, wNeg, intC, absD, maxD, minD, lenD, wLenM, atDd, atD, mutOf, setMut, agR, agDs, env0, parm, bodyEnds, bodyEndsF, gN, wAsg, exists_eq_left, exists_eq_left', exists_eq, exists_eq', Option.some.injEq, D.int.injEq, Sl.bor.injEq, Sl.own.injEq, Sl.val.injEq, D.bl.injEq, D.str.injEq, D.lst.injEq, D.tup.injEq, and_true, true_and, exists_const, exists_and_left, exists_and_right, List.getElem?_cons_zero, List.getElem?_cons_succ, List.set_cons_zero, List.set_cons_succ, List.length_cons, List.length_nil, decide_eq_true_eq, if_true, if_false, ite_true, ite_false, List.replicate, List.append_nil, List.nil_append, List.cons_append, List.append_eq, atI0, atI1, atI2, ixN0, ixN1, ixN2, ix30, ix31, ix32, Nat.zero_add, Nat.reduceAdd, Nat.reduceSub, Nat.reduceLeDiff, Option.some.injEq, reduceCtorEq, if_pos, List.replicate_succ, List.replicate_zero, wCall, wCallF, wCon, wConF, wLRg1, agR, agDs, wMkE, wExtend, wAppend, wDic, wDNew, wVals, wValE, Ag.vl.injEq, List.cons.injEq, wFor_eq, wIn, wEnum, wLc_eq, wRange, wYes, gTupD, gConsD, gNilD, List.map_cons, List.map_nil, wipeE, wSplit, wSm0, wChain, wSlF, wPart, wNoP, wWhile_eq, wAug, wPar, wPar3, wPopAt, wRaise, wSetD, wSetK, wLenB, wNinB, wTru, wTruB, wVarB, wFld, wSetA, wMake, wMeth, wTold, wParFF, wParVF, wJoin, wLenSet, isN, isNoneD, wInM, Sl.box.injEq, D.dic.injEq, D.ins.injEq, wDun, wInI, wLenI, wBinI, id, wFstr, wJs, wFmt, wInsert, wSetDI, cxK, tupC, listF, restE, List.getD, Option.getD]
  refine ⟨fun i env' => ∃ s4 s5, env' = [.bor a m2, .val (dLore L), .val (dBook C (bkOf L) rv), .val (.lst l), s4, s5, .un], ⟨_, _, rfl⟩, And.intro ?_ ?_⟩
  · rintro i x env' hd ⟨s4, s5, rfl⟩
    have hx := hall x (List.mem_of_getElem? hd)
    simp only [wSeqR, wIf, wB, wOp, wOpF, gtD, ltD, geD, leD, intD0, DL.intD, subD, mulD, fdivD, modD, powD, addD, catD, wIxM, wC, wSet, wSetF, wSetM, wRet, wRetF, wRetN, wVar, wFv, wLst, wTup, wCB, wCBF, wCons, wNil, wRef, wNext, wDrop, wAnd, wOr, wNot, wAndV, wOrV, wNotV, wIfE, wNeg, intC, absD, maxD, minD, lenD, wLenM, atDd, atD, mutOf, setMut, agR, agDs, env0, parm, bodyEnds, bodyEndsF, gN, wAsg, exists_eq_left, exists_eq_left', exists_eq, exists_eq', Option.some.injEq, D.int.injEq, Sl.bor.injEq, Sl.own.injEq, Sl.val.injEq, D.bl.injEq, D.str.injEq, D.lst.injEq, D.tup.injEq, and_true, true_and, exists_const, exists_and_left, exists_and_right, List.getElem?_cons_zero, List.getElem?_cons_succ, List.set_cons_zero, List.set_cons_succ, List.length_cons, List.length_nil, decide_eq_true_eq, if_true, if_false, ite_true, ite_false, List.replicate, List.append_nil, List.nil_append, List.cons_append, List.append_eq, atI0, atI1, atI2, ixN0, ixN1, ixN2, ix30, ix31, ix32, Nat.zero_add, Nat.reduceAdd, Nat.reduceSub, Nat.reduceLeDiff, Option.some.injEq, reduceCtorEq, if_pos, List.replicate_succ, List.replicate_zero, wCall, wCallF, wCon, wConF, wLRg1, agR, agDs, wMkE, wExtend, wAppend, wDic, wDNew, wVals, wValE, Ag.vl.injEq, List.cons.injEq, wFor_eq, wIn, wEnum, wLc_eq, wRange, wYes, gTupD, gConsD, gNilD, List.map_cons, List.map_nil, wipeE, wSplit, wSm0, wChain, wSlF, wPart, wNoP, wWhile_eq, wAug, wPar, wPar3, wPopAt, wRaise, wSetD, wSetK, wLenB, wNinB, wTru, wTruB, wVarB, wFld, wSetA, wMake, wMeth, wTold, wParFF, wParVF, wJoin, wLenSet, isN, isNoneD, wInM, Sl.box.injEq, D.dic.injEq, D.ins.injEq, wDun, wInI, wLenI, wBinI, id, wFstr, wJs, wFmt, wInsert, wSetDI, cxK, tupC, listF, restE, List.getD, Option.getD]
    refine ⟨fun i env' => ∃ s5, env' = [.bor a m2, .val (dLore L), .val (dBook C (bkOf L) rv), .val (.lst l), .val x, s5, .un], ⟨_, rfl⟩, And.intro ?_ ?_⟩
    · rintro j y env' hd2 ⟨s5, rfl⟩
      have hy := hall y (List.mem_of_getElem? hd2)
      simp only [wSeqR, wIf, wB, wOp, wOpF, gtD, ltD, geD, leD, intD0, DL.intD, subD, mulD, fdivD, modD, powD, addD, catD, wIxM, wC, wSet, wSetF, wSetM, wRet, wRetF, wRetN, wVar, wFv, wLst, wTup, wCB, wCBF, wCons, wNil, wRef, wNext, wDrop, wAnd, wOr, wNot, wAndV, wOrV, wNotV, wIfE, wNeg, intC, absD, maxD, minD, lenD, wLenM, atDd, atD, mutOf, setMut, agR, agDs, env0, parm, bodyEnds, bodyEndsF, gN, wAsg, exists_eq_left, exists_eq_left', exists_eq, exists_eq', Option.some.injEq, D.int.injEq, Sl.bor.injEq, Sl.own.injEq, Sl.val.injEq, D.bl.injEq, D.str.injEq, D.lst.injEq, D.tup.injEq, and_true, true_and, exists_const, exists_and_left, exists_and_right, List.getElem?_cons_zero, List.getElem?_cons_succ, List.set_cons_zero, List.set_cons_succ, List.length_cons, List.length_nil, decide_eq_true_eq, if_true, if_false, ite_true, ite_false, List.replicate, List.append_nil, List.nil_append, List.cons_append, List.append_eq, atI0, atI1, atI2, ixN0, ixN1, ixN2, ix30, ix31, ix32, Nat.zero_add, Nat.reduceAdd, Nat.reduceSub, Nat.reduceLeDiff, Option.some.injEq, reduceCtorEq, if_pos, List.replicate_succ, List.replicate_zero, wCall, wCallF, wCon, wConF, wLRg1, agR, agDs, wMkE, wExtend, wAppend, wDic, wDNew, wVals, wValE, Ag.vl.injEq, List.cons.injEq, wFor_eq, wIn, wEnum, wLc_eq, wRange, wYes, gTupD, gConsD, gNilD, List.map_cons, List.map_nil, wipeE, wSplit, wSm0, wChain, wSlF, wPart, wNoP, wWhile_eq, wAug, wPar, wPar3, wPopAt, wRaise, wSetD, wSetK, wLenB, wNinB, wTru, wTruB, wVarB, wFld, wSetA, wMake, wMeth, wTold, wParFF, wParVF, wJoin, wLenSet, isN, isNoneD, wInM, Sl.box.injEq, D.dic.injEq, D.ins.injEq, wDun, wInI, wLenI, wBinI, id, wFstr, wJs, wFmt, wInsert, wSetDI, cxK, tupC, listF, restE, List.getD, Option.getD]
      refine ⟨sz, rfl, lc_fm2 [true, false] D.bl (fun _ => true) (fun _ => D.bl true) rfl rfl sz (fun b hb acc G hz hG => ?_) ?_⟩
      · simp only [wSeqR, wIf, wB, wOp, wOpF, gtD, ltD, geD, leD, intD0, DL.intD, subD, mulD, fdivD, modD, powD, addD, catD, wIxM, wC, wSet, wSetF, wSetM, wRet, wRetF, wRetN, wVar, wFv, wLst, wTup, wCB, wCBF, wCons, wNil, wRef, wNext, wDrop, wAnd, wOr, wNot, wAndV, wOrV, wNotV, wIfE, wNeg, intC, absD, maxD, minD, lenD, wLenM, atDd, atD, mutOf, setMut, agR, agDs, env0, parm, bodyEnds, bodyEndsF, gN, wAsg, exists_eq_left, exists_eq_left', exists_eq, exists_eq', Option.some.injEq, D.int.injEq, Sl.bor.injEq, Sl.own.injEq, Sl.val.injEq, D.bl.injEq, D.str.injEq, D.lst.injEq, D.tup.injEq, and_true, true_and, exists_const, exists_and_left, exists_and_right, List.getElem?_cons_zero, List.getElem?_cons_succ, List.set_cons_zero, List.set_cons_succ, List.length_cons, List.length_nil, decide_eq_true_eq, if_true, if_false, ite_true, ite_false, List.replicate, List.append_nil, List.nil_append, List.cons_append, List.append_eq, atI0, atI1, atI2, ixN0, ixN1, ixN2, ix30, ix31, ix32, Nat.zero_add, Nat.reduceAdd, Nat.reduceSub, Nat.reduceLeDiff, Option.some.injEq, reduceCtorEq, if_pos, List.replicate_succ, List.replicate_zero, wCall, wCallF, wCon, wConF, wLRg1, agR, agDs, wMkE, wExtend, wAppend, wDic, wDNew, wVals, wValE, Ag.vl.injEq, List.cons.injEq, wFor_eq, wIn, wEnum, wLc_eq, wRange, wYes, gTupD, gConsD, gNilD, List.map_cons, List.map_nil, wipeE, wSplit, wSm0, wChain, wSlF, wPart, wNoP, wWhile_eq, wAug, wPar, wPar3, wPopAt, wRaise, wSetD, wSetK, wLenB, wNinB, wTru, wTruB, wVarB, wFld, wSetA, wMake, wMeth, wTold, wParFF, wParVF, wJoin, wLenSet, isN, isNoneD, wInM, Sl.box.injEq, D.dic.injEq, D.ins.injEq, wDun, wInI, wLenI, wBinI, id, wFstr, wJs, wFmt, wInsert, wSetDI, cxK, tupC, listF, restE, List.getD, Option.getD]
        rw [if_pos rfl] at hG
        exact ⟨L, rv, x, y, b, rfl, ok, hpool, hpr, hx.1, hy.1, hx.2, hy.2, hz, hG⟩
      · refine ⟨[true, true], rfl, _, rfl, ?_⟩
        rw [if_neg (by decide)]
        exact ⟨_, rfl⟩
    · rintro env' ⟨s5, rfl⟩
      exact ⟨_, _, rfl⟩
  · rintro env' ⟨s4, s5, rfl⟩
    (try simp only [restE, List.getD, Option.getD, List.set_cons_zero, List.set_cons_succ, List.getElem?_cons_zero, List.getElem?_cons_succ])
    rw [Rest_cons]
    simp only [wSeqR, wIf, wB, wOp, wOpF, gtD, ltD, geD, leD, intD0, DL.intD, subD, mulD, fdivD, modD, powD, addD, catD, wIxM, wC, wSet, wSetF, wSetM, wRet, wRetF, wRetN, wVar, wFv, wLst, wTup, wCB, wCBF, wCons, wNil, wRef, wNext, wDrop, wAnd, wOr, wNot, wAndV, wOrV, wNotV, wIfE, wNeg, intC, absD, maxD, minD, lenD, wLenM, atDd, atD, mutOf, setMut, agR, agDs, env0, parm, bodyEnds, bodyEndsF, gN, wAsg, exists_eq_left, exists_eq_left', exists_eq, exists_eq', Option.some.injEq, D.int.injEq, Sl.bor.injEq, Sl.own.injEq, Sl.val.injEq, D.bl.injEq, D.str.injEq, D.lst.injEq, D.tup.injEq, and_true, true_and, exists_const, exists_and_left, exists_and_right, List.getElem?_cons_zero, List.getElem?_cons_succ, List.set_cons_zero, List.set_cons_succ, List.length_cons, List.length_nil, decide_eq_true_eq, if_true, if_false, ite_true, ite_false, List.replicate, List.append_nil, List.nil_append, List.cons_append, List.append_eq, atI0, atI1, atI2, ixN0, ixN1, ixN2, ix30, ix31, ix32, Nat.zero_add, Nat.reduceAdd, Nat.reduceSub, Nat.reduceLeDiff, Option.some.injEq, reduceCtorEq, if_pos, List.replicate_succ, List.replicate_zero, wCall, wCallF, wCon, wConF, wLRg1, agR, agDs, wMkE, wExtend, wAppend, wDic, wDNew, wVals, wValE, Ag.vl.injEq, List.cons.injEq, wFor_eq, wIn, wEnum, wLc_eq, wRange, wYes, gTupD, gConsD, gNilD, List.map_cons, List.map_nil, wipeE, wSplit, wSm0, wChain, wSlF, wPart, wNoP, wWhile_eq, wAug, wPar, wPar3, wPopAt, wRaise, wSetD, wSetK, wLenB, wNinB, wTru, wTruB, wVarB, wFld, wSetA, wMake, wMeth, wTold, wParFF, wParVF, wJoin, wLenSet, isN, isNoneD, wInM, Sl.box.injEq, D.dic.injEq, D.ins.injEq, wDun, wInI, wLenI, wBinI, id, wFstr, wJs, wFmt, wInsert, wSetDI, cxK, tupC, listF, restE, List.getD, Option.getD]
    have hT := (lore_text ok).1
    exact ⟨C, _, _, rfl, ⟨BC.cls, BC.na _ (by decide)⟩, _, rfl, L, rfl, ok, eqD_str2 hT.ok hT.ok (by
      have e : (if false = true then !decide ((bkOf L).text = txt (loreLines L)) else decide ((bkOf L).text = txt (loreLines L))) = true := by simp [bkOf]
      rw [e]
      exact k m2 (hp2.mono (by omega)))⟩
theorem ok_law (B : Blt mg) {f : Addr} {fd : FuncData} (T : Fun K "law" "law" S_law f fd) (D_law_places : DefF P w K mg base τ true 1 "_law_places" ["script", "most"] 2 none (cPlaces K)) (D_law_pot : DefF P w K mg base τ true 1 "_law_pot" ["script", "k"] 2 none (cPot K))
    (D_law_right : DefE P w K mg base τ true 13 "_law_right" ["pot"] 1 (some 0) cRight) : FnG P w K mg base true 14 f fd ["script"] (spOf τ 1 none (cLaw K)) := by
  refine fn_A (k := 13) T sc_law rfl (by decide) fun cdv A outer s H E c hr hG hcv => ⟨_, (s_cons (s_for (passes_of rfl) rfl (i_in (a_fv (a_callDF D_law_places hr (by omega) hG rfl (takes_of rfl rfl rfl rfl) (aa_cons (a_var (pv 0)) (aa_cons a_int aa_nil))))) (pg_name (i := 1) sc_law.nd rfl (by first | exact .inl rfl | exact .inr rfl)) gok_name
      (s_cons (s_setF (i := 2) sc_law.nd rfl (by first | exact .inl rfl | exact .inr rfl) (a_callDF D_law_pot hr (by omega) hG rfl (takes_of rfl rfl rfl rfl) (aa_cons (a_var (pv 0)) (aa_cons (a_var (pv 1)) aa_nil))))
      (s_one (s_if (t_not (t_val (a_cb (cr_all rfl) calld_all rfl B.all (by decide +kernel) (aa_cons (a_fv (a_lc (own := [("lap", 3)]) rfl sc_law.nd (i_range1 rfl B.range (aa_cons a_int aa_nil)) (blkOk_by (N := ["script", "place", "pot", "lap"]) (sc := defScope S_law) (by decide +kernel)) (fun _ _ _ _ _ => (pg_name (i := 3) sc_law.nd rfl (Or.inl rfl))) (fun _ => (GOkW.v (gokw_name (by decide)))) (fun _ _ _ _ _ _ => ts_nil) (fun _ _ _ _ _ _ => (a_callD D_law_right hr (by omega) hG rfl L2.takes0 (aa_ref (pv 2) aa_nil))))) aa_nil)) (fun _ h => pt_val h)))
      (s_one (s_ret a_bl))
      s_nil))))
      (s_one (s_ret a_bl))), ?_⟩
  rintro a ds m Qd Xd hl hm ⟨ns, rfl, k⟩
  obtain rfl := hm rfl
  simp only [wSeqR, Rest_cons, wIf, wB, wOp, wOpF, gtD, ltD, geD, leD, intD0, DL.intD, subD, mulD, fdivD, modD, powD, addD, catD, wIxM, wC, wSet, wSetF, wSetM, wRet, wRetF, wRetN, wVar, wFv, wLst, wTup, wCB, wCBF, wCons, wNil, wRef, wNext, wDrop, wAnd, wOr, wNot, wAndV, wOrV, wNotV, wIfE, wNeg, intC, absD, maxD, minD, lenD, wLenM, atDd, atD, mutOf, setMut, agR, agDs, env0, parm, bodyEnds, bodyEndsF, gN, wAsg, exists_eq_left, exists_eq_left', exists_eq, exists_eq', Option.some.injEq, D.int.injEq, Sl.bor.injEq, Sl.own.injEq, Sl.val.injEq, D.bl.injEq, D.str.injEq, D.lst.injEq, D.tup.injEq, and_true, true_and, exists_const, exists_and_left, exists_and_right, List.getElem?_cons_zero, List.getElem?_cons_succ, List.set_cons_zero, List.set_cons_succ, List.length_cons, List.length_nil, decide_eq_true_eq, if_true, if_false, ite_true, ite_false, List.replicate, List.append_nil, List.nil_append, List.cons_append, List.append_eq, atI0, atI1, atI2, ixN0, ixN1, ixN2, ix30, ix31, ix32, Nat.zero_add, Nat.reduceAdd, Nat.reduceSub, Nat.reduceLeDiff, Option.some.injEq, reduceCtorEq, if_pos, List.replicate_succ, List.replicate_zero, wCall, wCallF, wCon, wConF, wLRg1, agR, agDs, wMkE, wExtend, wAppend, wDic, wDNew, wVals, wValE, Ag.vl.injEq, List.cons.injEq, wFor_eq, wIn, wEnum, wLc_eq, wRange, wYes, gTupD, gConsD, gNilD, List.map_cons, List.map_nil, wipeE, wSplit, wSm0, wChain, wSlF, wPart, wNoP, wWhile_eq, wAug, wPar, wPar3, wPopAt, wRaise, wSetD, wSetK, wLenB, wNinB, wTru, wTruB, wVarB, wFld, wSetA, wMake, wMeth, wTold, wParFF, wParVF, wJoin, wLenSet, isN, isNoneD, wInM, Sl.box.injEq, D.dic.injEq, D.ins.injEq, wDun, wInI, wLenI, wBinI, id, wFstr, wJs, wFmt, wInsert, wSetDI]
  refine ⟨ns, 4, rfl, by decide, by decide, fun j hj1 hj2 => ⟨fun _ env' => ∃ s1 s2, env' = [.val (.scr K ns), s1, s2, .un], ⟨_, _, rfl⟩, And.intro ?_ ?_⟩⟩
  · rintro i d env' hd ⟨s1, s2, rfl⟩
    obtain ⟨hi, rfl⟩ := intsFrom_get _ _ _ _ hd
    simp only [wSeqR, Rest_cons, wIf, wB, wOp, wOpF, gtD, ltD, geD, leD, intD0, DL.intD, subD, mulD, fdivD, modD, powD, addD, catD, wIxM, wC, wSet, wSetF, wSetM, wRet, wRetF, wRetN, wVar, wFv, wLst, wTup, wCB, wCBF, wCons, wNil, wRef, wNext, wDrop, wAnd, wOr, wNot, wAndV, wOrV, wNotV, wIfE, wNeg, intC, absD, maxD, minD, lenD, wLenM, atDd, atD, mutOf, setMut, agR, agDs, env0, parm, bodyEnds, bodyEndsF, gN, wAsg, exists_eq_left, exists_eq_left', exists_eq, exists_eq', Option.some.injEq, D.int.injEq, Sl.bor.injEq, Sl.own.injEq, Sl.val.injEq, D.bl.injEq, D.str.injEq, D.lst.injEq, D.tup.injEq, and_true, true_and, exists_const, exists_and_left, exists_and_right, List.getElem?_cons_zero, List.getElem?_cons_succ, List.set_cons_zero, List.set_cons_succ, List.length_cons, List.length_nil, decide_eq_true_eq, if_true, if_false, ite_true, ite_false, List.replicate, List.append_nil, List.nil_append, List.cons_append, List.append_eq, atI0, atI1, atI2, ixN0, ixN1, ixN2, ix30, ix31, ix32, Nat.zero_add, Nat.reduceAdd, Nat.reduceSub, Nat.reduceLeDiff, Option.some.injEq, reduceCtorEq, if_pos, List.replicate_succ, List.replicate_zero, wCall, wCallF, wCon, wConF, wLRg1, agR, agDs, wMkE, wExtend, wAppend, wDic, wDNew, wVals, wValE, Ag.vl.injEq, List.cons.injEq, wFor_eq, wIn, wEnum, wLc_eq, wRange, wYes, gTupD, gConsD, gNilD, List.map_cons, List.map_nil, wipeE, wSplit, wSm0, wChain, wSlF, wPart, wNoP, wWhile_eq, wAug, wPar, wPar3, wPopAt, wRaise, wSetD, wSetK, wLenB, wNinB, wTru, wTruB, wVarB, wFld, wSetA, wMake, wMeth, wTold, wParFF, wParVF, wJoin, wLenSet, isN, isNoneD, wInM, Sl.box.injEq, D.dic.injEq, D.ins.injEq, wDun, wInI, wLenI, wBinI, id, wFstr, wJs, wFmt, wInsert, wSetDI]
    refine ⟨ns, _, rfl, by omega, by omega, fun m hp => ⟨by decide, rfl, fun t acc env' => ∃ m, Pot (500 * t) m ∧ acc = List.replicate t (D.bl true) ∧ env' = [.val (.scr K ns), .val (.int (0 + (i : Int))), .own m, .un], ⟨m, hp.mono (by omega), rfl, rfl⟩, And.intro ?_ ?_⟩⟩
    · rintro t d acc env' hd' ⟨m, hp, rfl, rfl⟩
      obtain ⟨ht, rfl⟩ := intsFrom_get _ _ _ _ hd'
      have ht : t < 3 := ht
      simp only [wSeqR, Rest_cons, wIf, wB, wOp, wOpF, gtD, ltD, geD, leD, intD0, DL.intD, subD, mulD, fdivD, modD, powD, addD, catD, wIxM, wC, wSet, wSetF, wSetM, wRet, wRetF, wRetN, wVar, wFv, wLst, wTup, wCB, wCBF, wCons, wNil, wRef, wNext, wDrop, wAnd, wOr, wNot, wAndV, wOrV, wNotV, wIfE, wNeg, intC, absD, maxD, minD, lenD, wLenM, atDd, atD, mutOf, setMut, agR, agDs, env0, parm, bodyEnds, bodyEndsF, gN, wAsg, exists_eq_left, exists_eq_left', exists_eq, exists_eq', Option.some.injEq, D.int.injEq, Sl.bor.injEq, Sl.own.injEq, Sl.val.injEq, D.bl.injEq, D.str.injEq, D.lst.injEq, D.tup.injEq, and_true, true_and, exists_const, exists_and_left, exists_and_right, List.getElem?_cons_zero, List.getElem?_cons_succ, List.set_cons_zero, List.set_cons_succ, List.length_cons, List.length_nil, decide_eq_true_eq, if_true, if_false, ite_true, ite_false, List.replicate, List.append_nil, List.nil_append, List.cons_append, List.append_eq, atI0, atI1, atI2, ixN0, ixN1, ixN2, ix30, ix31, ix32, Nat.zero_add, Nat.reduceAdd, Nat.reduceSub, Nat.reduceLeDiff, Option.some.injEq, reduceCtorEq, if_pos, List.replicate_succ, List.replicate_zero, wCall, wCallF, wCon, wConF, wLRg1, agR, agDs, wMkE, wExtend, wAppend, wDic, wDNew, wVals, wValE, Ag.vl.injEq, List.cons.injEq, wFor_eq, wIn, wEnum, wLc_eq, wRange, wYes, gTupD, gConsD, gNilD, List.map_cons, List.map_nil, wipeE, wSplit, wSm0, wChain, wSlF, wPart, wNoP, wWhile_eq, wAug, wPar, wPar3, wPopAt, wRaise, wSetD, wSetK, wLenB, wNinB, wTru, wTruB, wVarB, wFld, wSetA, wMake, wMeth, wTold, wParFF, wParVF, wJoin, wLenSet, isN, isNoneD, wInM, Sl.box.injEq, D.dic.injEq, D.ins.injEq, wDun, wInI, wLenI, wBinI, id, wFstr, wJs, wFmt, wInsert, wSetDI]
      refine ⟨500 * t, rfl, hp, by omega, fun m' hp' => ⟨by rw [List.length_replicate]; exact Nat.lt_of_lt_of_le (show t < 100000 by omega) sz, m', hp'.mono (by omega), ?_, rfl⟩⟩
      rw [← List.replicate_succ, List.replicate_succ']
    · rintro acc env' ⟨m, hp, rfl, rfl⟩
      simp only [wSeqR, Rest_cons, wIf, wB, wOp, wOpF, gtD, ltD, geD, leD, intD0, DL.intD, subD, mulD, fdivD, modD, powD, addD, catD, wIxM, wC, wSet, wSetF, wSetM, wRet, wRetF, wRetN, wVar, wFv, wLst, wTup, wCB, wCBF, wCons, wNil, wRef, wNext, wDrop, wAnd, wOr, wNot, wAndV, wOrV, wNotV, wIfE, wNeg, intC, absD, maxD, minD, lenD, wLenM, atDd, atD, mutOf, setMut, agR, agDs, env0, parm, bodyEnds, bodyEndsF, gN, wAsg, exists_eq_left, exists_eq_left', exists_eq, exists_eq', Option.some.injEq, D.int.injEq, Sl.bor.injEq, Sl.own.injEq, Sl.val.injEq, D.bl.injEq, D.str.injEq, D.lst.injEq, D.tup.injEq, and_true, true_and, exists_const, exists_and_left, exists_and_right, List.getElem?_cons_zero, List.getElem?_cons_succ, List.set_cons_zero, List.set_cons_succ, List.length_cons, List.length_nil, decide_eq_true_eq, if_true, if_false, ite_true, ite_false, List.replicate, List.append_nil, List.nil_append, List.cons_append, List.append_eq, atI0, atI1, atI2, ixN0, ixN1, ixN2, ix30, ix31, ix32, Nat.zero_add, Nat.reduceAdd, Nat.reduceSub, Nat.reduceLeDiff, Option.some.injEq, reduceCtorEq, if_pos, List.replicate_succ, List.replicate_zero, wCall, wCallF, wCon, wConF, wLRg1, agR, agDs, wMkE, wExtend, wAppend, wDic, wDNew, wVals, wValE, Ag.vl.injEq, List.cons.injEq, wFor_eq, wIn, wEnum, wLc_eq, wRange, wYes, gTupD, gConsD, gNilD, List.map_cons, List.map_nil, wipeE, wSplit, wSm0, wChain, wSlF, wPart, wNoP, wWhile_eq, wAug, wPar, wPar3, wPopAt, wRaise, wSetD, wSetK, wLenB, wNinB, wTru, wTruB, wVarB, wFld, wSetA, wMake, wMeth, wTold, wParFF, wParVF, wJoin, wLenSet, isN, isNoneD, wInM, Sl.box.injEq, D.dic.injEq, D.ins.injEq, wDun, wInI, wLenI, wBinI, id, wFstr, wJs, wFmt, wInsert, wSetDI, restE, List.getD, Option.getD]
      refine ⟨List.replicate 3 true, rfl, _, rfl, ?_⟩
      rw [if_neg (by decide)]
      trivial
  · rintro env' ⟨s1, s2, rfl⟩
    exact k
end
end K05
set_option Elab.async false
set_option linter.all false
set_option maxRecDepth 100000
set_option maxHeartbeats 4000000
namespace K05
open PySem PySem.Spec PyProof.Rows L2 DL WB LamX WE
abbrev S_init : Stmt := inClass (top 2) 0
theorem sc_init : FnScope ["self", "value"] ["self", "value"] (defScope S_init) := ⟨rfl, rfl, rfl, by decide +kernel, rfl, by decide +kernel, by decide +kernel⟩
abbrev S_law_told : Stmt := top 26
theorem told_of {K : PySem.W.Frag} {mg : Str → Option Value} {h : Heap} {f cc : Addr} (D : DefI K "_law_told" "_law_told" S_law_told f) (X : K.In h) (G : h.Ns mainGlobals mg) (a : PySem.W.nsIn K mainGlobals "_law_told" = some (some (.ref f))) (hc : mg "WallError" = some (.ref cc)) : ToldT K mg cc := by
  obtain ⟨oc, od, kV, dc, pm, an, cd, ct, sl, l, c⟩ := D.l
  have F := fun_mk l c D.k
  exact ⟨f, _, _, _, kV, dc, pm, cd, ct, oc, an, od, sl, PySem.W.mg_of X G a, D.k, l, c, F.binds fun _ _ _ _ _ _ us hl => match us, hl with | [_], _ => rfl, fun X q eK em => by
    subst eK
    exact DLT.told_gives (by rw [em]; exact hc) fun _ => rfl⟩
structure BltK (K : PySem.W.Frag) : Prop where
  b_len : PySem.W.nsIn K mainGlobals "len" = some none
  b_abs : PySem.W.nsIn K mainGlobals "abs" = some none
  b_int : PySem.W.nsIn K mainGlobals "int" = some none
  b_max : PySem.W.nsIn K mainGlobals "max" = some none
  b_min : PySem.W.nsIn K mainGlobals "min" = some none
  b_list : PySem.W.nsIn K mainGlobals "list" = some none
  b_tuple : PySem.W.nsIn K mainGlobals "tuple" = some none
  b_range : PySem.W.nsIn K mainGlobals "range" = some none
  b_repr : PySem.W.nsIn K mainGlobals "repr" = some none
  b_isinstance : PySem.W.nsIn K mainGlobals "isinstance" = some none
  b_enumerate : PySem.W.nsIn K mainGlobals "enumerate" = some none
  b_all : PySem.W.nsIn K mainGlobals "all" = some none
  b_sorted : PySem.W.nsIn K mainGlobals "sorted" = some none
  b_set : PySem.W.nsIn K mainGlobals "set" = some none
  b_str : PySem.W.nsIn K mainGlobals "str" = some none
  b_dict : PySem.W.nsIn K mainGlobals "dict" = some none
theorem blt_of {h : Heap} {K : PySem.W.Frag} {mg : Str → Option Value} (B : BltK K) (X : K.In h) (G : h.Ns mainGlobals mg) : Blt mg := ⟨PySem.W.mg_none_of X G B.b_len, PySem.W.mg_none_of X G B.b_abs, PySem.W.mg_none_of X G B.b_int, PySem.W.mg_none_of X G B.b_max, PySem.W.mg_none_of X G B.b_min, PySem.W.mg_none_of X G B.b_list, PySem.W.mg_none_of X G B.b_tuple, PySem.W.mg_none_of X G B.b_range, PySem.W.mg_none_of X G B.b_repr, PySem.W.mg_none_of X G B.b_isinstance, PySem.W.mg_none_of X G B.b_enumerate, PySem.W.mg_none_of X G B.b_all, PySem.W.mg_none_of X G B.b_sorted, PySem.W.mg_none_of X G B.b_set, PySem.W.mg_none_of X G B.b_str, PySem.W.mg_none_of X G B.b_dict⟩
def clsOf (c0 c1 c2 c3 c4 : Addr) (i : Nat) : Addr := if i = 0 then c0 else if i = 1 then c1 else if i = 2 then c2 else if i = 3 then c3 else c4
theorem all_mk {l : PySem.W.OpenLaw} {w : World} {K : PySem.W.Frag} {h : Heap} {mg : Str → Option Value} {fa : Addr} (X : K.In h) (G : h.Ns mainGlobals mg) (hfa : mg "law" = some (.ref fa))
    {c0 c1 c2 c3 c4 fI C g_Book f_Book___contains__ f_Book___eq__ f_Book___len__ f_Book__need_client f_Book_are_rivals f_Book_with_rivals f_Book_without_rivals f_told f_law f__law_is_changed cd__law_is_changed tb__law_is_changed f_is_name f_are_names f_in_sequence f_is_lot f_read_clients f_read_rivals f_read_kinds f_read_lot f_words_behind f_need f__law_pot f__law_take f__law_of f__law_some f__law_places f__law_odd f__law_names f__law_pairs f__law_lot_of f__law_lore f__law_lines f__law_text f__law_made f__law_are_rivals f__law_with f__law_is_in f__law_due f__law_right : Addr}
    (e0 : ErrF K "WallError" c0 fI veT)
    (e1 : ErrF K "BadBook" c1 fI (.ref c0 :: veT))
    (e2 : ErrF K "NoClient" c2 fI (.ref c0 :: veT))
    (e3 : ErrF K "NoKind" c3 fI (.ref c0 :: veT))
    (e4 : ErrF K "BadRivals" c4 fI (.ref c0 :: veT))
    (S : ErrS K fI)
    (dI : DefI K "__init__" "WallError.__init__" S_init fI)
    (B : BltK K)
    (a_cBook : PySem.W.nsIn K mainGlobals "Book" = some (some (.ref C)))
    (cls_Book : Cls K C)
    (mk_Book : Mk K C g_Book)
    (n_Book0 : NoAttr K C "text")
    (n_Book1 : NoAttr K C "clients")
    (n_Book2 : NoAttr K C "rivals")
    (n_Book3 : NoAttr K C "kinds")
    (n_Book4 : NoAttr K C "_rights")
    (ins_Book : InsK K C)
    (dB_Book : DefI K "__init__" "Book.__init__" S_Book___init__ g_Book)
    (me_Book___contains__ : Meth K C "__contains__" f_Book___contains__)
    (dm_Book___contains__ : DefI K "__contains__" "Book.__contains__" S_Book___contains__ f_Book___contains__)
    (me_Book___eq__ : Meth K C "__eq__" f_Book___eq__)
    (dm_Book___eq__ : DefI K "__eq__" "Book.__eq__" S_Book___eq__ f_Book___eq__)
    (me_Book___len__ : Meth K C "__len__" f_Book___len__)
    (dm_Book___len__ : DefI K "__len__" "Book.__len__" S_Book___len__ f_Book___len__)
    (me_Book__need_client : Meth K C "_need_client" f_Book__need_client)
    (dm_Book__need_client : DefI K "_need_client" "Book._need_client" S_Book__need_client f_Book__need_client)
    (me_Book_are_rivals : Meth K C "are_rivals" f_Book_are_rivals)
    (dm_Book_are_rivals : DefI K "are_rivals" "Book.are_rivals" S_Book_are_rivals f_Book_are_rivals)
    (me_Book_with_rivals : Meth K C "with_rivals" f_Book_with_rivals)
    (dm_Book_with_rivals : DefI K "with_rivals" "Book.with_rivals" S_Book_with_rivals f_Book_with_rivals)
    (me_Book_without_rivals : Meth K C "without_rivals" f_Book_without_rivals)
    (dm_Book_without_rivals : DefI K "without_rivals" "Book.without_rivals" S_Book_without_rivals f_Book_without_rivals)
    (a_told : PySem.W.nsIn K mainGlobals "_law_told" = some (some (.ref f_told)))
    (d_told : DefI K "_law_told" "_law_told" S_law_told f_told)
    (a_law : PySem.W.nsIn K mainGlobals "law" = some (some (.ref f_law)))
    (d_law : DefI K "law" "law" S_law f_law)
    (a__law_is_changed : PySem.W.nsIn K mainGlobals "_law_is_changed" = some (some (.ref f__law_is_changed)))
    (d__law_is_changed : DefIC K "_law_is_changed" "_law_is_changed" S_law_is_changed f__law_is_changed cd__law_is_changed)
    (a_is_name : PySem.W.nsIn K mainGlobals "is_name" = some (some (.ref f_is_name)))
    (d_is_name : DefI K "is_name" "is_name" S_is_name f_is_name)
    (a_are_names : PySem.W.nsIn K mainGlobals "are_names" = some (some (.ref f_are_names)))
    (d_are_names : DefI K "are_names" "are_names" S_are_names f_are_names)
    (a_in_sequence : PySem.W.nsIn K mainGlobals "in_sequence" = some (some (.ref f_in_sequence)))
    (d_in_sequence : DefI K "in_sequence" "in_sequence" S_in_sequence f_in_sequence)
    (a_is_lot : PySem.W.nsIn K mainGlobals "is_lot" = some (some (.ref f_is_lot)))
    (d_is_lot : DefI K "is_lot" "is_lot" S_is_lot f_is_lot)
    (a_read_clients : PySem.W.nsIn K mainGlobals "read_clients" = some (some (.ref f_read_clients)))
    (d_read_clients : DefI K "read_clients" "read_clients" S_read_clients f_read_clients)
    (a_read_rivals : PySem.W.nsIn K mainGlobals "read_rivals" = some (some (.ref f_read_rivals)))
    (d_read_rivals : DefI K "read_rivals" "read_rivals" S_read_rivals f_read_rivals)
    (a_read_kinds : PySem.W.nsIn K mainGlobals "read_kinds" = some (some (.ref f_read_kinds)))
    (d_read_kinds : DefI K "read_kinds" "read_kinds" S_read_kinds f_read_kinds)
    (a_read_lot : PySem.W.nsIn K mainGlobals "read_lot" = some (some (.ref f_read_lot)))
    (d_read_lot : DefI K "read_lot" "read_lot" S_read_lot f_read_lot)
    (a_words_behind : PySem.W.nsIn K mainGlobals "words_behind" = some (some (.ref f_words_behind)))
    (d_words_behind : DefI K "words_behind" "words_behind" S_words_behind f_words_behind)
    (a_need : PySem.W.nsIn K mainGlobals "need" = some (some (.ref f_need)))
    (d_need : DefI K "need" "need" S_need f_need)
    (a__law_pot : PySem.W.nsIn K mainGlobals "_law_pot" = some (some (.ref f__law_pot)))
    (d__law_pot : DefI K "_law_pot" "_law_pot" S_law_pot f__law_pot)
    (a__law_take : PySem.W.nsIn K mainGlobals "_law_take" = some (some (.ref f__law_take)))
    (d__law_take : DefI K "_law_take" "_law_take" S_law_take f__law_take)
    (a__law_of : PySem.W.nsIn K mainGlobals "_law_of" = some (some (.ref f__law_of)))
    (d__law_of : DefI K "_law_of" "_law_of" S_law_of f__law_of)
    (a__law_some : PySem.W.nsIn K mainGlobals "_law_some" = some (some (.ref f__law_some)))
    (d__law_some : DefI K "_law_some" "_law_some" S_law_some f__law_some)
    (a__law_places : PySem.W.nsIn K mainGlobals "_law_places" = some (some (.ref f__law_places)))
    (d__law_places : DefI K "_law_places" "_law_places" S_law_places f__law_places)
    (a__law_odd : PySem.W.nsIn K mainGlobals "_law_odd" = some (some (.ref f__law_odd)))
    (d__law_odd : DefI K "_law_odd" "_law_odd" S_law_odd f__law_odd)
    (a__law_names : PySem.W.nsIn K mainGlobals "_law_names" = some (some (.ref f__law_names)))
    (d__law_names : DefI K "_law_names" "_law_names" S_law_names f__law_names)
    (a__law_pairs : PySem.W.nsIn K mainGlobals "_law_pairs" = some (some (.ref f__law_pairs)))
    (d__law_pairs : DefI K "_law_pairs" "_law_pairs" S_law_pairs f__law_pairs)
    (a__law_lot_of : PySem.W.nsIn K mainGlobals "_law_lot_of" = some (some (.ref f__law_lot_of)))
    (d__law_lot_of : DefI K "_law_lot_of" "_law_lot_of" S_law_lot_of f__law_lot_of)
    (a__law_lore : PySem.W.nsIn K mainGlobals "_law_lore" = some (some (.ref f__law_lore)))
    (d__law_lore : DefI K "_law_lore" "_law_lore" S_law_lore f__law_lore)
    (a__law_lines : PySem.W.nsIn K mainGlobals "_law_lines" = some (some (.ref f__law_lines)))
    (d__law_lines : DefI K "_law_lines" "_law_lines" S_law_lines f__law_lines)
    (a__law_text : PySem.W.nsIn K mainGlobals "_law_text" = some (some (.ref f__law_text)))
    (d__law_text : DefI K "_law_text" "_law_text" S_law_text f__law_text)
    (a__law_made : PySem.W.nsIn K mainGlobals "_law_made" = some (some (.ref f__law_made)))
    (d__law_made : DefI K "_law_made" "_law_made" S_law_made f__law_made)
    (a__law_are_rivals : PySem.W.nsIn K mainGlobals "_law_are_rivals" = some (some (.ref f__law_are_rivals)))
    (d__law_are_rivals : DefI K "_law_are_rivals" "_law_are_rivals" S_law_are_rivals f__law_are_rivals)
    (a__law_with : PySem.W.nsIn K mainGlobals "_law_with" = some (some (.ref f__law_with)))
    (d__law_with : DefI K "_law_with" "_law_with" S_law_with f__law_with)
    (a__law_is_in : PySem.W.nsIn K mainGlobals "_law_is_in" = some (some (.ref f__law_is_in)))
    (d__law_is_in : DefI K "_law_is_in" "_law_is_in" S_law_is_in f__law_is_in)
    (a__law_due : PySem.W.nsIn K mainGlobals "_law_due" = some (some (.ref f__law_due)))
    (d__law_due : DefI K "_law_due" "_law_due" S_law_due f__law_due)
    (a__law_right : PySem.W.nsIn K mainGlobals "_law_right" = some (some (.ref f__law_right)))
    (d__law_right : DefI K "_law_right" "_law_right" S_law_right f__law_right)
    : ∃ fd : FuncData, (∀ (s : Shared) (v : Value), BindsTo s fd ⟨[v], []⟩ [("script", v)]) ∧ ∀ base : Heap, K.In base → base.Ns mainGlobals mg → SysB base → TabB base mg cd__law_is_changed tb__law_is_changed → FnG l.prog w K mg base true 14 fa fd ["script"] (spOf [(tb__law_is_changed, "_law_is_changed" ++ ".<locals>." ++ "<lambda>")] 1 none (cLaw K)) := by
  have e := hfa.symm.trans (PySem.W.mg_of X G a_law)
  cases e
  have Bl := blt_of B X G
  have EC : ∀ (i : Nat) x, errNames[i]? = some x → ErrC K mg x (clsOf c0 c1 c2 c3 c4 i) fI := fun i x e => match i, e with
    | 0, e => by cases e; exact e0.errC S X G rfl
    | 1, e => by cases e; exact e1.errC S X G rfl
    | 2, e => by cases e; exact e2.errC S X G rfl
    | 3, e => by cases e; exact e3.errC S X G rfl
    | 4, e => by cases e; exact e4.errC S X G rfl
    | n + 5, e => by simp [errNames] at e
  obtain ⟨fdI, FI⟩ := dI.fun
  have bI : Binds K fdI ["self", "value"] [] := FI.binds fun _ _ _ _ _ _ us hl => match us, hl with | [_, _], _ => rfl
  have ti_Book := dB_Book.ti X G a_cBook mk_Book (ps := ["self", "text"]) fun _ _ _ _ _ _ us hl => match us, hl with | [_, _], _ => rfl
  have BC : BookC K C := ⟨cls_Book, fun f hf => by
    simp only [bkF, List.mem_cons, List.not_mem_nil, or_false] at hf
    rcases hf with rfl | rfl | rfl | rfl | rfl
    · exact n_Book0
    · exact n_Book1
    · exact n_Book2
    · exact n_Book3
    · exact n_Book4, kit_self⟩
  have tm_C___contains__ := dm_Book___contains__.tm cls_Book me_Book___contains__ (ps := ["self", "value"]) fun _ _ _ _ _ _ us hl => match us, hl with | [_, _], _ => rfl
  have tm_C___eq__ := dm_Book___eq__.tm cls_Book me_Book___eq__ (ps := ["self", "other"]) fun _ _ _ _ _ _ us hl => match us, hl with | [_, _], _ => rfl
  have tm_C___len__ := dm_Book___len__.tm cls_Book me_Book___len__ (ps := ["self"]) fun _ _ _ _ _ _ us hl => match us, hl with | [_], _ => rfl
  have tm_C__need_client := dm_Book__need_client.tm cls_Book me_Book__need_client (ps := ["self", "value"]) fun _ _ _ _ _ _ us hl => match us, hl with | [_, _], _ => rfl
  have tm_C_are_rivals := dm_Book_are_rivals.tm cls_Book me_Book_are_rivals (ps := ["self", "one", "other"]) fun _ _ _ _ _ _ us hl => match us, hl with | [_, _, _], _ => rfl
  have tm_C_with_rivals := dm_Book_with_rivals.tm cls_Book me_Book_with_rivals (ps := ["self", "one", "other"]) fun _ _ _ _ _ _ us hl => match us, hl with | [_, _, _], _ => rfl
  have tm_C_without_rivals := dm_Book_without_rivals.tm cls_Book me_Book_without_rivals (ps := ["self", "one", "other"]) fun _ _ _ _ _ _ us hl => match us, hl with | [_, _, _], _ => rfl
  have XX : ErrX K mg (clsOf c0 c1 c2 c3 c4) := ⟨fun i x e => (EC i x e).mg, fun i hi => match i, hi with
    | 0, _ => e0.ec S
    | 1, _ => e1.ec S
    | 2, _ => e2.ec S
    | 3, _ => e3.ec S
    | 4, _ => e4.ec S
    | n + 5, h => absurd h (by omega), fun i hi => match i, hi with
    | 0, _ => e0.nv
    | 1, _ => e1.nv
    | 2, _ => e2.nv
    | 3, _ => e3.nv
    | 4, _ => e4.nv
    | n + 5, h => absurd h (by omega), fun i hi => match i, hi with
    | 0, _ => kit_self
    | 1, _ => kit_self
    | 2, _ => kit_self
    | 3, _ => kit_self
    | 4, _ => kit_self
    | n + 5, h => absurd h (by omega), fun i hi => match i, hi with
    | 0, _ => exm_of (C := c0) (C' := c0) e0 e0 (by simp)
    | 1, _ => exm_of (C := c1) (C' := c0) e1 e0 (by simp)
    | 2, _ => exm_of (C := c2) (C' := c0) e2 e0 (by simp)
    | 3, _ => exm_of (C := c3) (C' := c0) e3 e0 (by simp)
    | 4, _ => exm_of (C := c4) (C' := c0) e4 e0 (by simp)
    | n + 5, h => absurd h (by omega)⟩
  have TT : ToldT K mg (clsOf c0 c1 c2 c3 c4 0) := told_of d_told X G a_told (e0.mgv X G)
  have t_is_name : DefT K mg "is_name" S_is_name ["word"] := d_is_name.t X G a_is_name fun _ _ _ _ _ _ us hl => match us, hl with | [_], _ => rfl
  have t_are_names : DefT K mg "are_names" S_are_names ["words"] := d_are_names.t X G a_are_names fun _ _ _ _ _ _ us hl => match us, hl with | [_], _ => rfl
  have t_in_sequence : DefT K mg "in_sequence" S_in_sequence ["clients", "members"] := d_in_sequence.t X G a_in_sequence fun _ _ _ _ _ _ us hl => match us, hl with | [_, _], _ => rfl
  have t_is_lot : DefT K mg "is_lot" S_is_lot ["clients", "value"] := d_is_lot.t X G a_is_lot fun _ _ _ _ _ _ us hl => match us, hl with | [_, _], _ => rfl
  have t_read_clients : DefT K mg "read_clients" S_read_clients ["lines"] := d_read_clients.t X G a_read_clients fun _ _ _ _ _ _ us hl => match us, hl with | [_], _ => rfl
  have t_read_rivals : DefT K mg "read_rivals" S_read_rivals ["clients", "lines"] := d_read_rivals.t X G a_read_rivals fun _ _ _ _ _ _ us hl => match us, hl with | [_, _], _ => rfl
  have t_read_kinds : DefT K mg "read_kinds" S_read_kinds ["clients", "lines", "start"] := d_read_kinds.t X G a_read_kinds fun _ _ _ _ _ _ us hl => match us, hl with | [_, _, _], _ => rfl
  have t_read_lot : DefT K mg "read_lot" S_read_lot ["clients", "lines", "at", "first"] := d_read_lot.t X G a_read_lot fun _ _ _ _ _ _ us hl => match us, hl with | [_, _, _, _], _ => rfl
  have t_words_behind : DefT K mg "words_behind" S_words_behind ["lines", "at", "first"] := d_words_behind.t X G a_words_behind fun _ _ _ _ _ _ us hl => match us, hl with | [_, _, _], _ => rfl
  have t_need : DefT K mg "need" S_need ["holds", "at"] := d_need.t X G a_need fun _ _ _ _ _ _ us hl => match us, hl with | [_, _], _ => rfl
  have t__law_pot : DefT K mg "_law_pot" S_law_pot ["script", "k"] := d__law_pot.t X G a__law_pot fun _ _ _ _ _ _ us hl => match us, hl with | [_, _], _ => rfl
  have t__law_take : DefT K mg "_law_take" S_law_take ["pot", "upto"] := d__law_take.t X G a__law_take fun _ _ _ _ _ _ us hl => match us, hl with | [_, _], _ => rfl
  have t__law_of : DefT K mg "_law_of" S_law_of ["pot", "some"] := d__law_of.t X G a__law_of fun _ _ _ _ _ _ us hl => match us, hl with | [_, _], _ => rfl
  have t__law_some : DefT K mg "_law_some" S_law_some ["pot", "pool", "amount"] := d__law_some.t X G a__law_some fun _ _ _ _ _ _ us hl => match us, hl with | [_, _, _], _ => rfl
  have t__law_places : DefT K mg "_law_places" S_law_places ["script", "most"] := d__law_places.t X G a__law_places fun _ _ _ _ _ _ us hl => match us, hl with | [_, _], _ => rfl
  have t__law_odd : DefT K mg "_law_odd" S_law_odd ["pot"] := d__law_odd.t X G a__law_odd fun _ _ _ _ _ _ us hl => match us, hl with | [_], _ => rfl
  have t__law_names : DefT K mg "_law_names" S_law_names ["pot", "amount"] := d__law_names.t X G a__law_names fun _ _ _ _ _ _ us hl => match us, hl with | [_, _], _ => rfl
  have t__law_pairs : DefT K mg "_law_pairs" S_law_pairs ["names"] := d__law_pairs.t X G a__law_pairs fun _ _ _ _ _ _ us hl => match us, hl with | [_], _ => rfl
  have t__law_lot_of : DefT K mg "_law_lot_of" S_law_lot_of ["pot", "names"] := d__law_lot_of.t X G a__law_lot_of fun _ _ _ _ _ _ us hl => match us, hl with | [_, _], _ => rfl
  have t__law_lore : DefT K mg "_law_lore" S_law_lore ["pot", "few", "most", "kinds"] := d__law_lore.t X G a__law_lore fun _ _ _ _ _ _ us hl => match us, hl with | [_, _, _, _], _ => rfl
  have t__law_lines : DefT K mg "_law_lines" S_law_lines ["lore"] := d__law_lines.t X G a__law_lines fun _ _ _ _ _ _ us hl => match us, hl with | [_], _ => rfl
  have t__law_text : DefT K mg "_law_text" S_law_text ["lore"] := d__law_text.t X G a__law_text fun _ _ _ _ _ _ us hl => match us, hl with | [_], _ => rfl
  have t__law_made : DefT K mg "_law_made" S_law_made ["lore"] := d__law_made.t X G a__law_made fun _ _ _ _ _ _ us hl => match us, hl with | [_], _ => rfl
  have t__law_are_rivals : DefT K mg "_law_are_rivals" S_law_are_rivals ["lore", "one", "other"] := d__law_are_rivals.t X G a__law_are_rivals fun _ _ _ _ _ _ us hl => match us, hl with | [_, _, _], _ => rfl
  have t__law_with : DefT K mg "_law_with" S_law_with ["lore", "word", "value"] := d__law_with.t X G a__law_with fun _ _ _ _ _ _ us hl => match us, hl with | [_, _, _], _ => rfl
  have t__law_is_in : DefT K mg "_law_is_in" S_law_is_in ["lore", "value"] := d__law_is_in.t X G a__law_is_in fun _ _ _ _ _ _ us hl => match us, hl with | [_, _], _ => rfl
  have t__law_due : DefT K mg "_law_due" S_law_due ["lore", "one", "other", "is_more"] := d__law_due.t X G a__law_due fun _ _ _ _ _ _ us hl => match us, hl with | [_, _, _, _], _ => rfl
  have t__law_right : DefT K mg "_law_right" S_law_right ["pot"] := d__law_right.t X G a__law_right fun _ _ _ _ _ _ us hl => match us, hl with | [_], _ => rfl
  obtain ⟨oc, od, kV, dc, pm, an, cdl, ct, sl, ll, cc⟩ := d_law.l
  have FL := fun_mk ll cc d_law.k
  refine ⟨PySem.W.fnOf "law" "law" (defArgs S_law) (defBody S_law) (defScope S_law) .none kV dc pm an cdl ct, fun s v => .of_eq rfl, ?_⟩
  intro base X' G' hS TB__law_is_changed
  have R : ∀ (i : Nat) x, errNames[i]? = some x → RsE l.prog w K mg base 1 x (clsOf c0 c1 c2 c3 c4 i) := fun i x e => ⟨fI, fdI, EC i x e, fnok_of (init_ok FI sc_init ⟨.inl rfl, .inl rfl⟩ rfl), bI⟩
  have tl__law_is_changed := d__law_is_changed.tl (τ := [(tb__law_is_changed, "_law_is_changed" ++ ".<locals>." ++ "<lambda>")]) X G a__law_is_changed TB__law_is_changed (ps := ["lore", "book", "one", "other", "is_more"]) (by simp) (fun p hp e => by
    simp only [List.mem_cons, List.not_mem_nil, or_false] at hp
    rcases hp with rfl
    · rfl) fun _ _ _ _ _ _ us hl => match us, hl with | [_, _, _, _, _], _ => rfl
  have h0 := ok_is_name (P := l.prog) (w := w) (mg := mg) (base := base) (τ := [(tb__law_is_changed, "_law_is_changed" ++ ".<locals>." ++ "<lambda>")]) Bl t_is_name
  have h1 := ok_in_sequence (P := l.prog) (w := w) (mg := mg) (base := base) (τ := [(tb__law_is_changed, "_law_is_changed" ++ ".<locals>." ++ "<lambda>")]) Bl hS t_in_sequence
  have h2 := ok_is_lot (P := l.prog) (w := w) (mg := mg) (base := base) (τ := [(tb__law_is_changed, "_law_is_changed" ++ ".<locals>." ++ "<lambda>")]) Bl hS t_is_lot h1 kit_self
  have h3 := ok_need (P := l.prog) (w := w) (mg := mg) (base := base) (τ := [(tb__law_is_changed, "_law_is_changed" ++ ".<locals>." ++ "<lambda>")]) t_need R
  have h4 := ok_words_behind (P := l.prog) (w := w) (mg := mg) (base := base) (τ := [(tb__law_is_changed, "_law_is_changed" ++ ".<locals>." ++ "<lambda>")]) Bl hS t_words_behind h3
  have h5 := ok_read_lot (P := l.prog) (w := w) (mg := mg) (base := base) (τ := [(tb__law_is_changed, "_law_is_changed" ++ ".<locals>." ++ "<lambda>")]) Bl t_read_lot h3 h2 h4
  have h6 := ok_are_names (P := l.prog) (w := w) (mg := mg) (base := base) (τ := [(tb__law_is_changed, "_law_is_changed" ++ ".<locals>." ++ "<lambda>")]) Bl hS t_are_names h0
  have h7 := ok_read_clients (P := l.prog) (w := w) (mg := mg) (base := base) (τ := [(tb__law_is_changed, "_law_is_changed" ++ ".<locals>." ++ "<lambda>")]) Bl t_read_clients h3 h6 h4
  have h8 := ok_read_rivals (P := l.prog) (w := w) (mg := mg) (base := base) (τ := [(tb__law_is_changed, "_law_is_changed" ++ ".<locals>." ++ "<lambda>")]) Bl hS t_read_rivals h3 h1 h4
  have h9 := ok_read_kinds (P := l.prog) (w := w) (mg := mg) (base := base) (τ := [(tb__law_is_changed, "_law_is_changed" ++ ".<locals>." ++ "<lambda>")]) Bl hS t_read_kinds h3 h0 h5 h4
  have h10 := ok_init (P := l.prog) (w := w) (mg := mg) (base := base) (τ := [(tb__law_is_changed, "_law_is_changed" ++ ".<locals>." ++ "<lambda>")]) Bl BC ti_Book R h7 h8 h9
  have h11 := ok_need_client (P := l.prog) (w := w) (mg := mg) (base := base) (τ := [(tb__law_is_changed, "_law_is_changed" ++ ".<locals>." ++ "<lambda>")]) hS BC tm_C__need_client R
  have h12 := ok_are_rivals (P := l.prog) (w := w) (mg := mg) (base := base) (τ := [(tb__law_is_changed, "_law_is_changed" ++ ".<locals>." ++ "<lambda>")]) hS BC tm_C_are_rivals h11
  have h13 := ok_len_bk (P := l.prog) (w := w) (mg := mg) (base := base) (τ := [(tb__law_is_changed, "_law_is_changed" ++ ".<locals>." ++ "<lambda>")]) Bl BC tm_C___len__
  have h14 := ok_in_bk (P := l.prog) (w := w) (mg := mg) (base := base) (τ := [(tb__law_is_changed, "_law_is_changed" ++ ".<locals>." ++ "<lambda>")]) hS BC tm_C___contains__
  have h15 := ok_eq_bk (P := l.prog) (w := w) (mg := mg) (base := base) (τ := [(tb__law_is_changed, "_law_is_changed" ++ ".<locals>." ++ "<lambda>")]) Bl hS BC ins_Book (PySem.W.mg_of X G a_cBook) tm_C___eq__
  have h16 := ok_with_rivals (P := l.prog) (w := w) (mg := mg) (base := base) (τ := [(tb__law_is_changed, "_law_is_changed" ++ ".<locals>." ++ "<lambda>")]) Bl hS BC tm_C_with_rivals R h12 h10
  have h17 := ok_without_rivals (P := l.prog) (w := w) (mg := mg) (base := base) (τ := [(tb__law_is_changed, "_law_is_changed" ++ ".<locals>." ++ "<lambda>")]) Bl hS BC tm_C_without_rivals R h12 h10
  have h18 := ok_take (P := l.prog) (w := w) (mg := mg) (base := base) (τ := [(tb__law_is_changed, "_law_is_changed" ++ ".<locals>." ++ "<lambda>")]) Bl t__law_take
  have h19 := ok_pot (P := l.prog) (w := w) (mg := mg) (base := base) (τ := [(tb__law_is_changed, "_law_is_changed" ++ ".<locals>." ++ "<lambda>")]) Bl t__law_pot
  have h20 := ok_places (P := l.prog) (w := w) (mg := mg) (base := base) (τ := [(tb__law_is_changed, "_law_is_changed" ++ ".<locals>." ++ "<lambda>")]) Bl t__law_places
  have h21 := ok_some (P := l.prog) (w := w) (mg := mg) (base := base) (τ := [(tb__law_is_changed, "_law_is_changed" ++ ".<locals>." ++ "<lambda>")]) Bl t__law_some h18
  have h22 := ok_names (P := l.prog) (w := w) (mg := mg) (base := base) (τ := [(tb__law_is_changed, "_law_is_changed" ++ ".<locals>." ++ "<lambda>")]) Bl t__law_names h21
  have h23 := ok_pairs (P := l.prog) (w := w) (mg := mg) (base := base) (τ := [(tb__law_is_changed, "_law_is_changed" ++ ".<locals>." ++ "<lambda>")]) Bl t__law_pairs
  have h24 := ok_of (P := l.prog) (w := w) (mg := mg) (base := base) (τ := [(tb__law_is_changed, "_law_is_changed" ++ ".<locals>." ++ "<lambda>")]) Bl t__law_of h18
  have h25 := ok_lot_of (P := l.prog) (w := w) (mg := mg) (base := base) (τ := [(tb__law_is_changed, "_law_is_changed" ++ ".<locals>." ++ "<lambda>")]) Bl hS t__law_lot_of h18
  have h26 := ok_lines (P := l.prog) (w := w) (mg := mg) (base := base) (τ := [(tb__law_is_changed, "_law_is_changed" ++ ".<locals>." ++ "<lambda>")]) Bl t__law_lines
  have h27 := ok_text (P := l.prog) (w := w) (mg := mg) (base := base) (τ := [(tb__law_is_changed, "_law_is_changed" ++ ".<locals>." ++ "<lambda>")]) Bl t__law_text h26
  have h28 := ok_made (P := l.prog) (w := w) (mg := mg) (base := base) (τ := [(tb__law_is_changed, "_law_is_changed" ++ ".<locals>." ++ "<lambda>")]) t__law_made h27 h10
  have h29 := ok_areR (P := l.prog) (w := w) (mg := mg) (base := base) (τ := [(tb__law_is_changed, "_law_is_changed" ++ ".<locals>." ++ "<lambda>")]) hS t__law_are_rivals
  have h30 := ok_is_in (P := l.prog) (w := w) (mg := mg) (base := base) (τ := [(tb__law_is_changed, "_law_is_changed" ++ ".<locals>." ++ "<lambda>")]) Bl hS t__law_is_in
  have h31 := ok_lore (P := l.prog) (w := w) (mg := mg) (base := base) (τ := [(tb__law_is_changed, "_law_is_changed" ++ ".<locals>." ++ "<lambda>")]) Bl hS t__law_lore h18 h24 h21 h22 h23 h25
  have h32 := ok_odd (P := l.prog) (w := w) (mg := mg) (base := base) (τ := [(tb__law_is_changed, "_law_is_changed" ++ ".<locals>." ++ "<lambda>")]) t__law_odd h24
  have h33 := ok_with (P := l.prog) (w := w) (mg := mg) (base := base) (τ := [(tb__law_is_changed, "_law_is_changed" ++ ".<locals>." ++ "<lambda>")]) Bl t__law_with
  have h34 := ok_due (P := l.prog) (w := w) (mg := mg) (base := base) (τ := [(tb__law_is_changed, "_law_is_changed" ++ ".<locals>." ++ "<lambda>")]) Bl hS t__law_due h30 h29
  have h35 := ok_changed (P := l.prog) (w := w) (mg := mg) (base := base) (τ := [(tb__law_is_changed, "_law_is_changed" ++ ".<locals>." ++ "<lambda>")]) Bl hS BC ins_Book XX TT tl__law_is_changed h34 h33 h27 h28 h16 h17 h15
  have h36 := ok_right (P := l.prog) (w := w) (mg := mg) (base := base) (τ := [(tb__law_is_changed, "_law_is_changed" ++ ".<locals>." ++ "<lambda>")]) Bl hS BC t__law_right h31 h28 h27 h32 h35
  exact ok_law Bl FL h20 h19 h36
theorem law_sp (K : PySem.W.Frag) (H : Hp) (a : Addr) (ns : List Int) {tb__law_is_changed : Addr} (h__law_is_changed : H tb__law_is_changed = some (.tbl #[])) (hS : SqL K H a (ns.map V.int)) : spOf [(tb__law_is_changed, "_law_is_changed" ++ ".<locals>." ++ "<lambda>")] 1 none (cLaw K) [.ref a] H (fun v _ => v = .bl true) fun _ _ _ => False := by
  refine ⟨fun _ => False, [.scr K ns], 0, [], fun d _ => d = .bl true, fun _ _ => False, rfl, fun p hp => ?_, fun _ z => z.elim, ⟨rfl, fun i v d _ e1 e2 => ?_, (fun j z => nomatch z), fun _ => rfl⟩, ⟨ns, rfl, rfl⟩, fun d m' v H' e dn _ _ _ => ?_, fun C d dd v H' z => z.elim⟩
  · simp only [List.mem_cons, List.not_mem_nil, or_false] at hp
    rcases hp with rfl
    · exact ⟨#[], h__law_is_changed, by intros; simp_all [TriplesOk], fun pos cv e => by simp [codeAmong] at e⟩
  · cases i with
    | succ i => simp at e1
    | zero =>
      simp at e1 e2
      subst e1; subst e2
      rcases hS with r | r
      · exact .scr r (fun z => z)
      · exact .scrK r
  · subst e
    cases dn
    rfl
end K05
set_option Elab.async false
set_option linter.all false
open PySem PySem.W PyProof.Rows
set_option maxRecDepth 100000 in
set_option maxHeartbeats 0 in
theorem PySem.Challenge.cw_wallbooks_k05_books_with_other_rivals_holds : PySem.Challenge.rw_wallbooks_k05_books_with_other_rivals.Holds := by
  w_on; o_law; k_head; (case hw => w_witness2)
  k_fill
  refine' DL.walk_ofT (l := PySem.Challenge.rw_wallbooks_k05_books_with_other_rivals) (n := 63) (k := 14) (x := "script") (cs := [(?cd0, ?tb0)]) rfl (by decide) rfl ⟨rfl, by decide, by decide⟩ (by decide +kernel) (fun w h Y => PySem.W.km_in_of Y) ?hT ?F (fun w H a ns hl hH hS => K05.law_sp (tb__law_is_changed := ?tb0) _ H a ns (hH _ List.mem_cons_self) hS)
  case hT =>
    intro w p hp
    simp only [List.mem_cons, List.not_mem_nil, or_false] at hp
    rcases hp with rfl
    · refine' ⟨"_law_is_changed", by decide +kernel, ?ti, ?tl⟩
      (case ti => refine' WE.tab_mk ?a ⟨_, _, _, _, ?l, ?c⟩ ⟨_, _, _, _, ?l2, ?v⟩; (case a => k_is); (case l => first | k_is | (refine Eq.trans (b := some _) (by k_is) ?_; rfl)); (case c => rfl); (case l2 => first | k_is | (refine Eq.trans (b := some _) (by k_is) ?_; rfl)); (case v => rfl))
      (case tl => first | rfl | decide +kernel)
  case F =>
    intro w mg fa h KX G hmg
    refine' (K05.all_mk KX G hmg ?e0 ?e1 ?e2 ?e3 ?e4 ?S ?dI ?B ?a_cBook ?cls_Book ?mk_Book ?n_Book0 ?n_Book1 ?n_Book2 ?n_Book3 ?n_Book4 ?ins_Book ?dB_Book ?me_Book___contains__ ?dm_Book___contains__ ?me_Book___eq__ ?dm_Book___eq__ ?me_Book___len__ ?dm_Book___len__ ?me_Book__need_client ?dm_Book__need_client ?me_Book_are_rivals ?dm_Book_are_rivals ?me_Book_with_rivals ?dm_Book_with_rivals ?me_Book_without_rivals ?dm_Book_without_rivals ?a_told ?d_told ?a_law ?d_law ?a__law_is_changed ?d__law_is_changed ?a_is_name ?d_is_name ?a_are_names ?d_are_names ?a_in_sequence ?d_in_sequence ?a_is_lot ?d_is_lot ?a_read_clients ?d_read_clients ?a_read_rivals ?d_read_rivals ?a_read_kinds ?d_read_kinds ?a_read_lot ?d_read_lot ?a_words_behind ?d_words_behind ?a_need ?d_need ?a__law_pot ?d__law_pot ?a__law_take ?d__law_take ?a__law_of ?d__law_of ?a__law_some ?d__law_some ?a__law_places ?d__law_places ?a__law_odd ?d__law_odd ?a__law_names ?d__law_names ?a__law_pairs ?d__law_pairs ?a__law_lot_of ?d__law_lot_of ?a__law_lore ?d__law_lore ?a__law_lines ?d__law_lines ?a__law_text ?d__law_text ?a__law_made ?d__law_made ?a__law_are_rivals ?d__law_are_rivals ?a__law_with ?d__law_with ?a__law_is_in ?d__law_is_in ?a__law_due ?d__law_due ?a__law_right ?d__law_right).imp fun fd hfd => ⟨hfd.1, fun base X' G' hS TB => hfd.2 base X' G' hS (TB _ List.mem_cons_self)⟩
    (case e0 => refine' ⟨?a, ⟨_, _, _, _, _, _, _, _, _, _, _, _, _, _, ?l⟩, ?sa, ?ex, ?ty, ?kc, ?nv, ?ic, ?hg, ?hk, ?hd, ?ha, ?hm⟩; (case a => k_is); (case l => first | k_is | (refine Eq.trans (b := some _) (by k_is) ?_; rfl)); (case sa => k_is); (case ex => k_is); (case ty => k_is); (case kc => k_is); (case nv => k_is); (case ic => k_is); (case hg => k_is); (case hk => k_is); (case hd => k_is); (case ha => k_is); (case hm => k_is))
    (case e1 => refine' ⟨?a, ⟨_, _, _, _, _, _, _, _, _, _, _, _, _, _, ?l⟩, ?sa, ?ex, ?ty, ?kc, ?nv, ?ic, ?hg, ?hk, ?hd, ?ha, ?hm⟩; (case a => k_is); (case l => first | k_is | (refine Eq.trans (b := some _) (by k_is) ?_; rfl)); (case sa => k_is); (case ex => k_is); (case ty => k_is); (case kc => k_is); (case nv => k_is); (case ic => k_is); (case hg => k_is); (case hk => k_is); (case hd => k_is); (case ha => k_is); (case hm => k_is))
    (case e2 => refine' ⟨?a, ⟨_, _, _, _, _, _, _, _, _, _, _, _, _, _, ?l⟩, ?sa, ?ex, ?ty, ?kc, ?nv, ?ic, ?hg, ?hk, ?hd, ?ha, ?hm⟩; (case a => k_is); (case l => first | k_is | (refine Eq.trans (b := some _) (by k_is) ?_; rfl)); (case sa => k_is); (case ex => k_is); (case ty => k_is); (case kc => k_is); (case nv => k_is); (case ic => k_is); (case hg => k_is); (case hk => k_is); (case hd => k_is); (case ha => k_is); (case hm => k_is))
    (case e3 => refine' ⟨?a, ⟨_, _, _, _, _, _, _, _, _, _, _, _, _, _, ?l⟩, ?sa, ?ex, ?ty, ?kc, ?nv, ?ic, ?hg, ?hk, ?hd, ?ha, ?hm⟩; (case a => k_is); (case l => first | k_is | (refine Eq.trans (b := some _) (by k_is) ?_; rfl)); (case sa => k_is); (case ex => k_is); (case ty => k_is); (case kc => k_is); (case nv => k_is); (case ic => k_is); (case hg => k_is); (case hk => k_is); (case hd => k_is); (case ha => k_is); (case hm => k_is))
    (case e4 => refine' ⟨?a, ⟨_, _, _, _, _, _, _, _, _, _, _, _, _, _, ?l⟩, ?sa, ?ex, ?ty, ?kc, ?nv, ?ic, ?hg, ?hk, ?hd, ?ha, ?hm⟩; (case a => k_is); (case l => first | k_is | (refine Eq.trans (b := some _) (by k_is) ?_; rfl)); (case sa => k_is); (case ex => k_is); (case ty => k_is); (case kc => k_is); (case nv => k_is); (case ic => k_is); (case hg => k_is); (case hk => k_is); (case hd => k_is); (case ha => k_is); (case hm => k_is))
    (case S => refine' ⟨?ti, ?hn, ?ht⟩; (case ti => k_is); (case hn => k_is); (case ht => k_is))
    (case dI => refine' ⟨⟨_, _, _, _, _, _, _, _, _, ?l, ?c⟩, ?k⟩; (case l => first | k_is | (refine Eq.trans (b := some _) (by k_is) ?_; rfl)); (case c => k_is); (case k => k_is))
    (case B => refine' ⟨?b0, ?b1, ?b2, ?b3, ?b4, ?b5, ?b6, ?b7, ?b8, ?b9, ?b10, ?b11, ?b12, ?b13, ?b14, ?b15⟩; (case b0 => k_is); (case b1 => k_is); (case b2 => k_is); (case b3 => k_is); (case b4 => k_is); (case b5 => k_is); (case b6 => k_is); (case b7 => k_is); (case b8 => k_is); (case b9 => k_is); (case b10 => k_is); (case b11 => k_is); (case b12 => k_is); (case b13 => k_is); (case b14 => k_is); (case b15 => k_is))
    (case a_cBook => k_is)
    (case cls_Book => refine' ⟨?pg, ?hd, ?po, ?sa⟩; (case pg => k_is); (case hd => k_is); (case po => k_is); (case sa => k_is))
    (case mk_Book => refine' ⟨?m, ?i, ?f, ?k⟩; (case m => k_is); (case i => k_is); (case f => k_is); (case k => k_is))
    (case n_Book0 => show PySem.W.findIn _ _ _ = some none; k_is)
    (case n_Book1 => show PySem.W.findIn _ _ _ = some none; k_is)
    (case n_Book2 => show PySem.W.findIn _ _ _ = some none; k_is)
    (case n_Book3 => show PySem.W.findIn _ _ _ = some none; k_is)
    (case n_Book4 => show PySem.W.findIn _ _ _ = some none; k_is)
    (case ins_Book => refine' ⟨⟨?pg, ?hd, ?po, ?sa⟩, ?ha, ?hn, ?htk, ?ob, ?ne, ?ct, ?sf⟩; (case pg => k_is); (case hd => k_is); (case po => k_is); (case sa => k_is); (case ha => k_is); (case hn => k_is); (case htk => k_is); (case ob => k_is); (case ne => k_is); (case ct => k_is); (case sf => k_is))
    (case dB_Book => refine' ⟨⟨_, _, _, _, _, _, _, _, _, ?l, ?c⟩, ?k⟩; (case l => first | k_is | (refine Eq.trans (b := some _) (by k_is) ?_; rfl)); (case c => k_is); (case k => k_is))
    (case me_Book___contains__ => refine' ⟨?m, ?f, ?k⟩; (case m => k_is); (case f => k_is); (case k => k_is))
    (case dm_Book___contains__ => refine' ⟨⟨_, _, _, _, _, _, _, _, _, ?l, ?c⟩, ?k⟩; (case l => first | k_is | (refine Eq.trans (b := some _) (by k_is) ?_; rfl)); (case c => k_is); (case k => k_is))
    (case me_Book___eq__ => refine' ⟨?m, ?f, ?k⟩; (case m => k_is); (case f => k_is); (case k => k_is))
    (case dm_Book___eq__ => refine' ⟨⟨_, _, _, _, _, _, _, _, _, ?l, ?c⟩, ?k⟩; (case l => first | k_is | (refine Eq.trans (b := some _) (by k_is) ?_; rfl)); (case c => k_is); (case k => k_is))
    (case me_Book___len__ => refine' ⟨?m, ?f, ?k⟩; (case m => k_is); (case f => k_is); (case k => k_is))
    (case dm_Book___len__ => refine' ⟨⟨_, _, _, _, _, _, _, _, _, ?l, ?c⟩, ?k⟩; (case l => first | k_is | (refine Eq.trans (b := some _) (by k_is) ?_; rfl)); (case c => k_is); (case k => k_is))
    (case me_Book__need_client => refine' ⟨?m, ?f, ?k⟩; (case m => k_is); (case f => k_is); (case k => k_is))
    (case dm_Book__need_client => refine' ⟨⟨_, _, _, _, _, _, _, _, _, ?l, ?c⟩, ?k⟩; (case l => first | k_is | (refine Eq.trans (b := some _) (by k_is) ?_; rfl)); (case c => k_is); (case k => k_is))
    (case me_Book_are_rivals => refine' ⟨?m, ?f, ?k⟩; (case m => k_is); (case f => k_is); (case k => k_is))
    (case dm_Book_are_rivals => refine' ⟨⟨_, _, _, _, _, _, _, _, _, ?l, ?c⟩, ?k⟩; (case l => first | k_is | (refine Eq.trans (b := some _) (by k_is) ?_; rfl)); (case c => k_is); (case k => k_is))
    (case me_Book_with_rivals => refine' ⟨?m, ?f, ?k⟩; (case m => k_is); (case f => k_is); (case k => k_is))
    (case dm_Book_with_rivals => refine' ⟨⟨_, _, _, _, _, _, _, _, _, ?l, ?c⟩, ?k⟩; (case l => first | k_is | (refine Eq.trans (b := some _) (by k_is) ?_; rfl)); (case c => k_is); (case k => k_is))
    (case me_Book_without_rivals => refine' ⟨?m, ?f, ?k⟩; (case m => k_is); (case f => k_is); (case k => k_is))
    (case dm_Book_without_rivals => refine' ⟨⟨_, _, _, _, _, _, _, _, _, ?l, ?c⟩, ?k⟩; (case l => first | k_is | (refine Eq.trans (b := some _) (by k_is) ?_; rfl)); (case c => k_is); (case k => k_is))
    (case a_told => k_is)
    (case d_told => refine' ⟨⟨_, _, _, _, _, _, _, _, _, ?l, ?c⟩, ?k⟩; (case l => first | k_is | (refine Eq.trans (b := some _) (by k_is) ?_; rfl)); (case c => k_is); (case k => k_is))
    (case a_law => k_is)
    (case d_law => refine' ⟨⟨_, _, _, _, _, _, _, _, _, ?l, ?c⟩, ?k⟩; (case l => first | k_is | (refine Eq.trans (b := some _) (by k_is) ?_; rfl)); (case c => k_is); (case k => k_is))
    (case a__law_is_changed => k_is)
    (case d__law_is_changed => refine' ⟨⟨_, _, _, _, _, _, _, _, ?l⟩, ?c, ?k⟩; (case l => first | k_is | (refine Eq.trans (b := some _) (by k_is) ?_; rfl)); (case c => k_is); (case k => k_is))
    (case a_is_name => k_is)
    (case d_is_name => refine' ⟨⟨_, _, _, _, _, _, _, _, _, ?l, ?c⟩, ?k⟩; (case l => first | k_is | (refine Eq.trans (b := some _) (by k_is) ?_; rfl)); (case c => k_is); (case k => k_is))
    (case a_are_names => k_is)
    (case d_are_names => refine' ⟨⟨_, _, _, _, _, _, _, _, _, ?l, ?c⟩, ?k⟩; (case l => first | k_is | (refine Eq.trans (b := some _) (by k_is) ?_; rfl)); (case c => k_is); (case k => k_is))
    (case a_in_sequence => k_is)
    (case d_in_sequence => refine' ⟨⟨_, _, _, _, _, _, _, _, _, ?l, ?c⟩, ?k⟩; (case l => first | k_is | (refine Eq.trans (b := some _) (by k_is) ?_; rfl)); (case c => k_is); (case k => k_is))
    (case a_is_lot => k_is)
    (case d_is_lot => refine' ⟨⟨_, _, _, _, _, _, _, _, _, ?l, ?c⟩, ?k⟩; (case l => first | k_is | (refine Eq.trans (b := some _) (by k_is) ?_; rfl)); (case c => k_is); (case k => k_is))
    (case a_read_clients => k_is)
    (case d_read_clients => refine' ⟨⟨_, _, _, _, _, _, _, _, _, ?l, ?c⟩, ?k⟩; (case l => first | k_is | (refine Eq.trans (b := some _) (by k_is) ?_; rfl)); (case c => k_is); (case k => k_is))
    (case a_read_rivals => k_is)
    (case d_read_rivals => refine' ⟨⟨_, _, _, _, _, _, _, _, _, ?l, ?c⟩, ?k⟩; (case l => first | k_is | (refine Eq.trans (b := some _) (by k_is) ?_; rfl)); (case c => k_is); (case k => k_is))
    (case a_read_kinds => k_is)
    (case d_read_kinds => refine' ⟨⟨_, _, _, _, _, _, _, _, _, ?l, ?c⟩, ?k⟩; (case l => first | k_is | (refine Eq.trans (b := some _) (by k_is) ?_; rfl)); (case c => k_is); (case k => k_is))
    (case a_read_lot => k_is)
    (case d_read_lot => refine' ⟨⟨_, _, _, _, _, _, _, _, _, ?l, ?c⟩, ?k⟩; (case l => first | k_is | (refine Eq.trans (b := some _) (by k_is) ?_; rfl)); (case c => k_is); (case k => k_is))
    (case a_words_behind => k_is)
    (case d_words_behind => refine' ⟨⟨_, _, _, _, _, _, _, _, _, ?l, ?c⟩, ?k⟩; (case l => first | k_is | (refine Eq.trans (b := some _) (by k_is) ?_; rfl)); (case c => k_is); (case k => k_is))
    (case a_need => k_is)
    (case d_need => refine' ⟨⟨_, _, _, _, _, _, _, _, _, ?l, ?c⟩, ?k⟩; (case l => first | k_is | (refine Eq.trans (b := some _) (by k_is) ?_; rfl)); (case c => k_is); (case k => k_is))
    (case a__law_pot => k_is)
    (case d__law_pot => refine' ⟨⟨_, _, _, _, _, _, _, _, _, ?l, ?c⟩, ?k⟩; (case l => first | k_is | (refine Eq.trans (b := some _) (by k_is) ?_; rfl)); (case c => k_is); (case k => k_is))
    (case a__law_take => k_is)
    (case d__law_take => refine' ⟨⟨_, _, _, _, _, _, _, _, _, ?l, ?c⟩, ?k⟩; (case l => first | k_is | (refine Eq.trans (b := some _) (by k_is) ?_; rfl)); (case c => k_is); (case k => k_is))
    (case a__law_of => k_is)
    (case d__law_of => refine' ⟨⟨_, _, _, _, _, _, _, _, _, ?l, ?c⟩, ?k⟩; (case l => first | k_is | (refine Eq.trans (b := some _) (by k_is) ?_; rfl)); (case c => k_is); (case k => k_is))
    (case a__law_some => k_is)
    (case d__law_some => refine' ⟨⟨_, _, _, _, _, _, _, _, _, ?l, ?c⟩, ?k⟩; (case l => first | k_is | (refine Eq.trans (b := some _) (by k_is) ?_; rfl)); (case c => k_is); (case k => k_is))
    (case a__law_places => k_is)
    (case d__law_places => refine' ⟨⟨_, _, _, _, _, _, _, _, _, ?l, ?c⟩, ?k⟩; (case l => first | k_is | (refine Eq.trans (b := some _) (by k_is) ?_; rfl)); (case c => k_is); (case k => k_is))
    (case a__law_odd => k_is)
    (case d__law_odd => refine' ⟨⟨_, _, _, _, _, _, _, _, _, ?l, ?c⟩, ?k⟩; (case l => first | k_is | (refine Eq.trans (b := some _) (by k_is) ?_; rfl)); (case c => k_is); (case k => k_is))
    (case a__law_names => k_is)
    (case d__law_names => refine' ⟨⟨_, _, _, _, _, _, _, _, _, ?l, ?c⟩, ?k⟩; (case l => first | k_is | (refine Eq.trans (b := some _) (by k_is) ?_; rfl)); (case c => k_is); (case k => k_is))
    (case a__law_pairs => k_is)
    (case d__law_pairs => refine' ⟨⟨_, _, _, _, _, _, _, _, _, ?l, ?c⟩, ?k⟩; (case l => first | k_is | (refine Eq.trans (b := some _) (by k_is) ?_; rfl)); (case c => k_is); (case k => k_is))
    (case a__law_lot_of => k_is)
    (case d__law_lot_of => refine' ⟨⟨_, _, _, _, _, _, _, _, _, ?l, ?c⟩, ?k⟩; (case l => first | k_is | (refine Eq.trans (b := some _) (by k_is) ?_; rfl)); (case c => k_is); (case k => k_is))
    (case a__law_lore => k_is)
    (case d__law_lore => refine' ⟨⟨_, _, _, _, _, _, _, _, _, ?l, ?c⟩, ?k⟩; (case l => first | k_is | (refine Eq.trans (b := some _) (by k_is) ?_; rfl)); (case c => k_is); (case k => k_is))
    (case a__law_lines => k_is)
    (case d__law_lines => refine' ⟨⟨_, _, _, _, _, _, _, _, _, ?l, ?c⟩, ?k⟩; (case l => first | k_is | (refine Eq.trans (b := some _) (by k_is) ?_; rfl)); (case c => k_is); (case k => k_is))
    (case a__law_text => k_is)
    (case d__law_text => refine' ⟨⟨_, _, _, _, _, _, _, _, _, ?l, ?c⟩, ?k⟩; (case l => first | k_is | (refine Eq.trans (b := some _) (by k_is) ?_; rfl)); (case c => k_is); (case k => k_is))
    (case a__law_made => k_is)
    (case d__law_made => refine' ⟨⟨_, _, _, _, _, _, _, _, _, ?l, ?c⟩, ?k⟩; (case l => first | k_is | (refine Eq.trans (b := some _) (by k_is) ?_; rfl)); (case c => k_is); (case k => k_is))
    (case a__law_are_rivals => k_is)
    (case d__law_are_rivals => refine' ⟨⟨_, _, _, _, _, _, _, _, _, ?l, ?c⟩, ?k⟩; (case l => first | k_is | (refine Eq.trans (b := some _) (by k_is) ?_; rfl)); (case c => k_is); (case k => k_is))
    (case a__law_with => k_is)
    (case d__law_with => refine' ⟨⟨_, _, _, _, _, _, _, _, _, ?l, ?c⟩, ?k⟩; (case l => first | k_is | (refine Eq.trans (b := some _) (by k_is) ?_; rfl)); (case c => k_is); (case k => k_is))
    (case a__law_is_in => k_is)
    (case d__law_is_in => refine' ⟨⟨_, _, _, _, _, _, _, _, _, ?l, ?c⟩, ?k⟩; (case l => first | k_is | (refine Eq.trans (b := some _) (by k_is) ?_; rfl)); (case c => k_is); (case k => k_is))
    (case a__law_due => k_is)
    (case d__law_due => refine' ⟨⟨_, _, _, _, _, _, _, _, _, ?l, ?c⟩, ?k⟩; (case l => first | k_is | (refine Eq.trans (b := some _) (by k_is) ?_; rfl)); (case c => k_is); (case k => k_is))
    (case a__law_right => k_is)
    (case d__law_right => refine' ⟨⟨_, _, _, _, _, _, _, _, _, ?l, ?c⟩, ?k⟩; (case l => first | k_is | (refine Eq.trans (b := some _) (by k_is) ?_; rfl)); (case c => k_is); (case k => k_is))

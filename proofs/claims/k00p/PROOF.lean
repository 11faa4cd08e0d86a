import PyProof.Rows.All
import Wide.All
import OpenK.AllK
import Wide.FinOn
import PyProof.EqAt
import PyProof.EqKinds
import PyProof.TupleCall
import HandS.ForMost
import HandS.ForExc
import HandS.ExcInit
import HandS.CallSlots
import HandS.Wide
import HandS.TupAny
import HandS.IsInst
import HandS.SetKeys
import HandS.ExcIs
import HandS.Conv
import PySem.Challenge.RW_wallbooks_k00_errors_and_what_they_keep
set_option Elab.async false
set_option linter.all false
set_option maxRecDepth 100000
set_option maxHeartbeats 4000000
namespace DL
open PySem L2

/-- what a value tells, without the heap -/
inductive D where
  | non | bl (b : Bool) | int (i : Int) | str (s : Str)
  | tup (ds : List D) | lst (ds : List D)
  | dic (ks : List Key) (ds : List D)
  | ins (C : Addr) (ks : List Str) (ds : List D)
  | err (C : Addr) (d : D)
  | ty (n : String) | atm (a : Addr)
  | scr (K : PySem.W.Frag) (ns : List Int)

abbrev AvS := Addr → Prop
mutual
inductive Den (Av : AvS) (H : Hp) : V → D → Prop
  | non : Den Av H .non .non
  | bl (b : Bool) : Den Av H (.bl b) (.bl b)
  | int (i : Int) : Den Av H (.int i) (.int i)
  | str (x : Str) : Den Av H (.str x) (.str x)
  | ty (n : String) : Den Av H (.ty n) (.ty n)
  | atm (a : Addr) : Den Av H (.ref a) (.atm a)
  | tup {a : Addr} {vs : List V} {ds : List D} : Rd H a (.tup vs) → ¬ Av a → Dens Av H vs ds → Den Av H (.ref a) (.tup ds)
  | lst {a : Addr} {vs : List V} {ds : List D} : H a = some (.lst vs) → ¬ Av a → Dens Av H vs ds → Den Av H (.ref a) (.lst ds)
  | dic {a : Addr} {kvs : List (Key × V)} {ds : List D} : Rd H a (.dK kvs) → ¬ Av a → Dens Av H (kvs.map (·.2)) ds → Den Av H (.ref a) (.dic (kvs.map (·.1)) ds)
  | ins {a C dx : Addr} {fs : List (Str × V)} {ds : List D} : H a = some (.ins C dx fs) → ¬ Av a → Dens Av H (fs.map (·.2)) ds → Den Av H (.ref a) (.ins C (fs.map (·.1)) ds)
  | err {a C e : Addr} {v : V} {d : D} : H a = some (exo a C (some e)) → H e = some (exd e [("value", v)]) → ¬ Av a → ¬ Av e → Den Av H v d → Den Av H (.ref a) (.err C d)
  | scr {K : PySem.W.Frag} {a : Addr} {ns : List Int} : Rd H a (.lst (ns.map V.int)) → ¬ Av a → Den Av H (.ref a) (.scr K ns)
  | scrK {K : PySem.W.Frag} {a : Addr} {ns : List Int} : (∃ (o : Obj) (its : Array Value) (n : Nat), K.lookup a = some o ∧ o.cls = .type "list" ∧ o.dict = none ∧ o.data = .seq its n ∧ its.size ≤ sizeLine ∧ Vals (ns.map V.int) its.toList) → Den Av H (.ref a) (.scr K ns)
inductive Dens (Av : AvS) (H : Hp) : List V → List D → Prop
  | nil : Dens Av H [] []
  | cons {v : V} {vs : List V} {d : D} {ds : List D} : Den Av H v d → Dens Av H vs ds → Dens Av H (v :: vs) (d :: ds)
end

/-- all that values lean on stands -/
structure Mono (Av : AvS) (H : Hp) (Av' : AvS) (H' : Hp) : Prop where
  av : ∀ a, Av' a → Av a ∨ H a = none
  kp : ∀ a o, ¬ Av a → H a = some o → H' a = some o
section
variable {Av Av' Av'' : AvS} {H H' H'' : Hp}
theorem Mono.refl : Mono Av H Av H := ⟨fun _ h => .inl h, fun _ _ _ h => h⟩
theorem Mono.trans (m : Mono Av H Av' H') (n : Mono Av' H' Av'' H'') : Mono Av H Av'' H'' := by
  refine ⟨fun a h => ?_, fun a o na e => ?_⟩
  · by_cases ha : Av a
    · exact .inl ha
    · refine .inr ?_
      cases e : H a with
      | none => rfl
      | some o =>
        have e' := m.kp a o ha e
        rcases n.av a h with h1 | h1
        · rcases m.av a h1 with h2 | h2
          · exact absurd h2 ha
          · rw [h2] at e; cases e
        · rw [h1] at e'; cases e'
  · refine n.kp a o (fun h => ?_) (m.kp a o na e)
    rcases m.av a h with h1 | h1
    · exact na h1
    · rw [h1] at e; cases e
theorem Mono.no (m : Mono Av H Av' H') {a : Addr} {o : HO} (na : ¬ Av a) (e : H a = some o) : ¬ Av' a := fun h => by
  rcases m.av a h with h1 | h1
  · exact na h1
  · rw [h1] at e; cases e
theorem Mono.rd (m : Mono Av H Av' H') {a : Addr} {o : HO} (na : ¬ Av a) (e : Rd H a o) : Rd H' a o ∧ ¬ Av' a := by
  rcases e with e | ⟨ob, e⟩
  · exact ⟨.inl (m.kp a _ na e), m.no na e⟩
  · exact ⟨.inr ⟨ob, m.kp a _ na e⟩, m.no na e⟩
mutual
theorem Den.mono (m : Mono Av H Av' H') : ∀ {v : V} {d : D}, Den Av H v d → Den Av' H' v d
  | _, _, .non => .non
  | _, _, .bl b => .bl b
  | _, _, .int i => .int i
  | _, _, .str x => .str x
  | _, _, .ty n => .ty n
  | _, _, .atm a => .atm a
  | _, _, .tup h na ds => .tup (m.rd na h).1 (m.rd na h).2 (Dens.mono m ds)
  | _, _, .lst h na ds => .lst (m.kp _ _ na h) (m.no na h) (Dens.mono m ds)
  | _, _, .scr h na => .scr (m.rd na h).1 (m.rd na h).2
  | _, _, .scrK h => .scrK h
  | _, _, .dic h na ds => .dic (m.rd na h).1 (m.rd na h).2 (Dens.mono m ds)
  | _, _, .ins h na ds => .ins (m.kp _ _ na h) (m.no na h) (Dens.mono m ds)
  | _, _, .err h h2 na ne d => .err (m.kp _ _ na h) (m.kp _ _ ne h2) (m.no na h) (m.no ne h2) (Den.mono m d)
theorem Dens.mono (m : Mono Av H Av' H') : ∀ {vs : List V} {ds : List D}, Dens Av H vs ds → Dens Av' H' vs ds
  | _, _, .nil => .nil
  | _, _, .cons h hs => .cons (Den.mono m h) (Dens.mono m hs)
end
theorem Dens.length : ∀ {vs : List V} {ds : List D}, Dens Av H vs ds → vs.length = ds.length
  | _, _, .nil => rfl
  | _, _, .cons _ hs => by rw [List.length_cons, List.length_cons, hs.length]
theorem Dens.get : ∀ {vs : List V} {ds : List D} {i : Nat} {d : D}, Dens Av H vs ds → ds[i]? = some d → ∃ v, vs[i]? = some v ∧ Den Av H v d
  | _, _, _, _, .nil, e => by simp at e
  | _, _, 0, _, .cons h _, e => by simp at e; subst e; exact ⟨_, rfl, h⟩
  | _, _, i + 1, _, .cons _ t, e => by
    obtain ⟨v, h1, h2⟩ := Dens.get (i := i) t (by simpa using e)
    exact ⟨v, by simpa using h1, h2⟩
theorem Dens.getV : ∀ {vs : List V} {ds : List D} {i : Nat} {v : V}, Dens Av H vs ds → vs[i]? = some v → ∃ d, ds[i]? = some d ∧ Den Av H v d
  | _, _, _, _, .nil, e => by simp at e
  | _, _, 0, _, .cons h _, e => by simp at e; subst e; exact ⟨_, rfl, h⟩
  | _, _, i + 1, _, .cons _ t, e => by
    obtain ⟨v, h1, h2⟩ := Dens.getV (i := i) t (by simpa using e)
    exact ⟨v, by simpa using h1, h2⟩
theorem Dens.append : ∀ {vs ws : List V} {ds es : List D}, Dens Av H vs ds → Dens Av H ws es → Dens Av H (vs ++ ws) (ds ++ es)
  | _, _, _, _, .nil, s => s
  | _, _, _, _, .cons h t, s => .cons h (Dens.append t s)
theorem Dens.take : ∀ {vs : List V} {ds : List D} (n : Nat), Dens Av H vs ds → Dens Av H (vs.take n) (ds.take n)
  | _, _, 0, _ => .nil
  | _, _, _ + 1, .nil => .nil
  | _, _, n + 1, .cons h t => .cons h (Dens.take n t)
theorem Dens.drop : ∀ {vs : List V} {ds : List D} (n : Nat), Dens Av H vs ds → Dens Av H (vs.drop n) (ds.drop n)
  | _, _, 0, s => s
  | _, _, _ + 1, .nil => .nil
  | _, _, n + 1, .cons _ t => Dens.drop n t
theorem Dens.set : ∀ {vs : List V} {ds : List D} (i : Nat) {v : V} {d : D}, Dens Av H vs ds → Den Av H v d → Dens Av H (vs.set i v) (ds.set i d)
  | _, _, _, _, _, .nil, _ => .nil
  | _, _, 0, _, _, .cons _ t, g => .cons g t
  | _, _, i + 1, _, _, .cons h t, g => .cons h (Dens.set i t g)
theorem Dens.eraseIdx : ∀ {vs : List V} {ds : List D} (i : Nat), Dens Av H vs ds → Dens Av H (vs.eraseIdx i) (ds.eraseIdx i)
  | _, _, _, .nil => .nil
  | _, _, 0, .cons _ t => t
  | _, _, i + 1, .cons h t => .cons h (Dens.eraseIdx i t)
theorem Dens.reverse {vs : List V} {ds : List D} (h : Dens Av H vs ds) : Dens Av H vs.reverse ds.reverse := by
  induction vs generalizing ds with
  | nil => cases h; exact .nil
  | cons v vs ih =>
    cases h with
    | cons h t =>
      rw [List.reverse_cons, List.reverse_cons]
      exact (ih t).append (.cons h .nil)
theorem Dens.inj_ints : ∀ {vs : List V} {ns : List Int}, Dens Av H vs (ns.map D.int) → vs = ns.map V.int
  | _, [], .nil => rfl
  | _, n :: ns, .cons h t => by cases h; rw [List.map_cons, Dens.inj_ints t]
theorem Dens.inj_strs : ∀ {vs : List V} {ns : List Str}, Dens Av H vs (ns.map D.str) → vs = ns.map V.str
  | _, [], .nil => rfl
  | _, n :: ns, .cons h t => by cases h; rw [List.map_cons, Dens.inj_strs t]
theorem Dens.inj_bls : ∀ {vs : List V} {ns : List Bool}, Dens Av H vs (ns.map D.bl) → vs = ns.map V.bl
  | _, [], .nil => rfl
  | _, n :: ns, .cons h t => by cases h; rw [List.map_cons, Dens.inj_bls t]
end

/-! ### what stands in a slot of the frame -/
inductive Sl where
  | un | val (d : D) | own (ds : List D) | bor (a : Addr) (ds : List D)
abbrev Env := List Sl

/-- the constants of a def's body: the heap at its entry, what values must keep off there, what it may change -/
structure Cn where
  H0 : Hp
  Av0 : AvS
  P : AvS

def ownA : Option V → Sl → Option Addr
  | some (.ref a), .own _ => some a
  | some (.ref a), .bor _ _ => some a
  | _, _ => none
def SlOk (c : Cn) (Av : AvS) (H : Hp) (o : Option V) : Sl → Prop
  | .un => True
  | .val d => ∃ v, o = some v ∧ Den Av H v d
  | .own ds => ∃ a vs, o = some (.ref a) ∧ Av a ∧ H a = some (.lst vs) ∧ Dens Av H vs ds ∧ (c.P a ∨ c.H0 a = none) ∧ ¬ c.Av0 a
  | .bor a ds => ∃ vs, o = some (.ref a) ∧ Av a ∧ H a = some (.lst vs) ∧ Dens Av H vs ds ∧ (c.P a ∨ c.H0 a = none)
structure Good (c : Cn) (Av : AvS) (σ : L2.St) (H : Hp) (env : Env) : Prop where
  len : env.length = σ.length
  ok : ∀ (i : Nat) s o, env[i]? = some s → σ[i]? = some o → SlOk c Av H o s
  sep : ∀ (i j : Nat) s t o p a, i ≠ j → env[i]? = some s → env[j]? = some t → σ[i]? = some o → σ[j]? = some p → ownA o s = some a → ownA p t ≠ some a
  lo : ∀ a, c.Av0 a → Av a
  live : ∀ a, Av a → ∃ o, H a = some o
  fr : ∀ a o, ¬ c.P a → c.H0 a = some o → H a = some o
  pl : ∀ a, c.P a → ∃ o, H a = some o
section
variable {c : Cn} {Av Av' : AvS} {σ : L2.St} {H H' : Hp} {env : Env} {i : Nat} {d : D} {v : V} {o : Option V} {s : Sl}
theorem Good.slot (g : Good c Av σ H env) (e : env[i]? = some s) : ∃ o, σ[i]? = some o ∧ SlOk c Av H o s := by
  have h1 : i < env.length := (List.getElem?_eq_some_iff.mp e).1
  have h2 : i < σ.length := by rw [← g.len]; exact h1
  exact ⟨σ[i], List.getElem?_eq_getElem h2, g.ok i s _ e (List.getElem?_eq_getElem h2)⟩
theorem Good.val (g : Good c Av σ H env) (e : env[i]? = some (.val d)) : ∃ v, σ[i]? = some (some v) ∧ Den Av H v d := by
  obtain ⟨o, h1, v, rfl, h2⟩ := g.slot e
  exact ⟨v, h1, h2⟩
/-- a new object -/
theorem Mono.new {p : Addr} {ob : HO} (hp : H p = none) : Mono Av H Av (upd H p ob) := ⟨fun _ h => .inl h, fun a u _ e => by rw [upd_ne (ne_of_none e hp)]; exact e⟩
/-- the heap grows -/
theorem SlOk.grow (m : Mono Av H Av' H') (ha : ∀ a, Av a → Av' a) (hk : ∀ a o, Av a → H a = some o → H' a = some o) (h : SlOk c Av H o s) : SlOk c Av' H' o s := by
  cases s with
  | un => trivial
  | val d => obtain ⟨v, e, q⟩ := h; exact ⟨v, e, q.mono m⟩
  | own ds => obtain ⟨a, vs, e, q1, q2, q3, q4⟩ := h; exact ⟨a, vs, e, ha _ q1, hk _ _ q1 q2, q3.mono m, q4⟩
  | bor a ds => obtain ⟨vs, e, q1, q2, q3, q4⟩ := h; exact ⟨vs, e, ha _ q1, hk _ _ q1 q2, q3.mono m, q4⟩
theorem Good.grow (g : Good c Av σ H env) (k : ∀ a o, H a = some o → H' a = some o) : Good c Av σ H' env where
  len := g.len
  ok := fun i s o e1 e2 => (g.ok i s o e1 e2).grow ⟨fun _ h => .inl h, fun a o _ e => k a o e⟩ (fun _ h => h) fun a o _ e => k a o e
  sep := g.sep
  lo := g.lo
  live := fun a h => let ⟨o, e⟩ := g.live a h; ⟨o, k a o e⟩
  fr := fun a o np e => k a o (g.fr a o np e)
  pl := fun a h => let ⟨o, e⟩ := g.pl a h; ⟨o, k a o e⟩
theorem Mono.grow (k : ∀ a o, H a = some o → H' a = some o) : Mono Av H Av H' := ⟨fun _ h => .inl h, fun a o _ e => k a o e⟩
theorem keepNew {p : Addr} {ob : HO} (hp : H p = none) : ∀ a o, H a = some o → upd H p ob a = some o := fun a o e => by rw [upd_ne (ne_of_none e hp)]; exact e
theorem Good.new (g : Good c Av σ H env) {p : Addr} {ob : HO} (hp : H p = none) : Good c Av σ (upd H p ob) env := g.grow (keepNew hp)
theorem Good.notAv (g : Good c Av σ H env) {p : Addr} (hp : H p = none) : ¬ Av p := fun h => by
  obtain ⟨o, e⟩ := g.live p h
  rw [hp] at e; cases e
/-- a slot is stored -/
theorem Good.setVal (g : Good c Av σ H env) (hv : Den Av H v d) (i : Nat) : Good c Av (σ.set i (some v)) H (env.set i (.val d)) where
  len := by rw [List.length_set, List.length_set, g.len]
  ok := fun j s o e1 e2 => by
    rw [List.getElem?_set] at e1 e2
    by_cases h : i = j
    · subst h
      rw [if_pos rfl] at e1 e2
      split at e1
      · split at e2
        · cases e1; cases e2; exact ⟨v, rfl, hv⟩
        · cases e2
      · cases e1
    · rw [if_neg h] at e1 e2
      exact g.ok j s o e1 e2
  sep := fun j k s t o p a hjk e1 e2 e3 e4 h1 => by
    rw [List.getElem?_set] at e1 e2 e3 e4
    by_cases h : i = j
    · subst h
      rw [if_pos rfl] at e1
      split at e1
      · cases e1
        cases o with
        | none => cases h1
        | some w => cases w <;> cases h1
      · cases e1
    · rw [if_neg h] at e1 e3
      by_cases h' : i = k
      · subst h'
        rw [if_pos rfl] at e2
        split at e2
        · cases e2
          cases p with
          | none => exact fun z => nomatch z
          | some w => cases w <;> exact fun z => nomatch z
        · cases e2
      · rw [if_neg h'] at e2 e4
        exact g.sep j k s t o p a hjk e1 e2 e3 e4 h1
  lo := g.lo
  live := g.live
  fr := g.fr
  pl := g.pl
theorem Good.free0 (g : Good c Av σ H env) {p : Addr} (hp : H p = none) : c.H0 p = none := by
  cases e : c.H0 p with
  | none => rfl
  | some o =>
    by_cases hP : c.P p
    · obtain ⟨u, hu⟩ := g.pl p hP
      rw [hp] at hu; cases hu
    · have z := g.fr p o hP e
      rw [hp] at z; cases z

/-! ### lists that may change -/
def mutOf : Sl → Option (List D)
  | .own ds => some ds
  | .bor _ ds => some ds
  | _ => none
def setMut : Sl → List D → Sl
  | .own _, ds => .own ds
  | .bor a _, ds => .bor a ds
  | s, _ => s
theorem own_eq {s : Sl} {ds : List D} (h : mutOf s = some ds) (k : SlOk c Av H o s) : ∃ a vs, o = some (.ref a) ∧ ownA o s = some a ∧ Av a ∧ H a = some (.lst vs) ∧ Dens Av H vs ds ∧ (c.P a ∨ c.H0 a = none) ∧
    ∀ H' vs' ds', H' a = some (.lst vs') → Dens Av H' vs' ds' → SlOk c Av H' o (setMut s ds') ∧ ownA o (setMut s ds') = some a := by
  cases s with
  | un => cases h
  | val d => cases h
  | own ds =>
    cases h
    obtain ⟨a, vs, rfl, q1, q2, q3, q4, q5⟩ := k
    exact ⟨a, vs, rfl, rfl, q1, q2, q3, q4, fun H' vs' ds' e1 e2 => ⟨⟨a, vs', rfl, q1, e1, e2, q4, q5⟩, rfl⟩⟩
  | bor a ds =>
    cases h
    obtain ⟨vs, rfl, q1, q2, q3, q4⟩ := k
    exact ⟨a, vs, rfl, rfl, q1, q2, q3, q4, fun H' vs' ds' e1 e2 => ⟨⟨vs', rfl, q1, e1, e2, q4⟩, rfl⟩⟩
theorem ownA_av {s : Sl} {a : Addr} (h : ownA o s = some a) (k : SlOk c Av H o s) : Av a := by
  cases s with
  | un => cases o with
    | none => cases h
    | some w => cases w <;> cases h
  | val d => cases o with
    | none => cases h
    | some w => cases w <;> cases h
  | own ds =>
    obtain ⟨b, vs, rfl, q1, _⟩ := k
    cases h; exact q1
  | bor b ds =>
    obtain ⟨vs, rfl, q1, _⟩ := k
    cases h; exact q1
theorem Mono.upd {a : Addr} {ob : HO} (ha : Av a) : Mono Av H Av (L2.upd H a ob) := ⟨fun _ h => .inl h, fun b u nb e => by rw [upd_ne (fun z : b = a => nb (by rw [z]; exact ha))]; exact e⟩
theorem Mono.but {a : Addr} (ha : Av a) (fr : ∀ b o, b ≠ a → H b = some o → H' b = some o) : Mono Av H Av H' := ⟨fun _ h => .inl h, fun b u nb e => fr b u (fun z : b = a => nb (by rw [z]; exact ha)) e⟩
theorem SlOk.other {a : Addr} (ha : Av a) (hn : ownA o s ≠ some a) (fr : ∀ b o, b ≠ a → H b = some o → H' b = some o) (h : SlOk c Av H o s) : SlOk c Av H' o s := by
  cases s with
  | un => trivial
  | val d => obtain ⟨v, e, q⟩ := h; exact ⟨v, e, q.mono (Mono.but ha fr)⟩
  | own ds =>
    obtain ⟨b, vs, rfl, q1, q2, q3, q4⟩ := h
    exact ⟨b, vs, rfl, q1, fr _ _ (fun z => hn (by rw [z]; rfl)) q2, q3.mono (Mono.but ha fr), q4⟩
  | bor b ds =>
    obtain ⟨vs, rfl, q1, q2, q3, q4⟩ := h
    exact ⟨vs, rfl, q1, fr _ _ (fun z => hn (by rw [z]; rfl)) q2, q3.mono (Mono.but ha fr), q4⟩
theorem Good.mutTo {ds vs' ds'} {a : Addr} (g : Good c Av σ H env) (e : env[i]? = some s) (hm : mutOf s = some ds) (e2 : σ[i]? = some (some (.ref a))) (h1 : H' a = some (.lst vs')) (h2 : Dens Av H' vs' ds') (fr : ∀ b o, b ≠ a → H b = some o → H' b = some o) :
    Good c Av σ H' (env.set i (setMut s ds')) ∧ Mono Av H Av H' := by
  obtain ⟨o, e2', k⟩ := g.slot e
  rw [e2] at e2'; cases e2'
  obtain ⟨a', vs, z, q0, q1, q2, q3, q4, q5⟩ := own_eq hm k
  cases z
  refine ⟨?_, Mono.but q1 fr⟩
  obtain ⟨r1, r2⟩ := q5 H' vs' ds' h1 h2
  have hi : i < env.length := (List.getElem?_eq_some_iff.mp e).1
  constructor
  · rw [List.length_set]; exact g.len
  · intro j s' o' e1 e3
    rw [List.getElem?_set] at e1
    by_cases h : i = j
    · subst h
      rw [if_pos rfl, if_pos hi] at e1
      cases e1
      rw [e2] at e3; cases e3
      exact r1
    · rw [if_neg h] at e1
      exact (g.ok j s' o' e1 e3).other q1 (g.sep i j s s' _ o' a h e e1 e2 e3 q0) fr
  · intro j k' s' t o' p b hjk e1 e3 e4 e5 h1
    rw [List.getElem?_set] at e1 e3
    by_cases h : i = j
    · subst h
      rw [if_pos rfl, if_pos hi] at e1
      rw [if_neg hjk] at e3
      cases e1
      rw [e2] at e4; cases e4
      rw [r2] at h1; cases h1
      exact g.sep i k' s t _ p a hjk e e3 e2 e5 q0
    · rw [if_neg h] at e1
      by_cases h' : i = k'
      · subst h'
        rw [if_pos rfl, if_pos hi] at e3
        cases e3
        rw [e2] at e5; cases e5
        rw [r2]
        intro z; cases z
        exact g.sep j i s' s o' _ a hjk e1 e e4 e2 h1 q0
      · rw [if_neg h'] at e3
        exact g.sep j k' s' t o' p b hjk e1 e3 e4 e5 h1
  · exact g.lo
  · intro b hb
    by_cases h : b = a
    · exact ⟨_, by rw [h]; exact h1⟩
    · obtain ⟨u, hu⟩ := g.live b hb
      exact ⟨u, fr b u h hu⟩
  · intro b u np h0
    have hb : b ≠ a := fun z => by
      rcases q4 with q4 | q4
      · exact np (z ▸ q4)
      · rw [z, q4] at h0; cases h0
    exact fr b u hb (g.fr b u np h0)
  · intro b hb
    by_cases h : b = a
    · exact ⟨_, by rw [h]; exact h1⟩
    · obtain ⟨u, hu⟩ := g.pl b hb
      exact ⟨u, fr b u h hu⟩
theorem Good.mutAt {ds : List D} (g : Good c Av σ H env) (e : env[i]? = some s) (hm : mutOf s = some ds) : ∃ a vs, σ[i]? = some (some (.ref a)) ∧ Av a ∧ H a = some (.lst vs) ∧ Dens Av H vs ds ∧
    ∀ vs' ds', Dens Av H vs' ds' → Good c Av σ (L2.upd H a (.lst vs')) (env.set i (setMut s ds')) ∧ Mono Av H Av (L2.upd H a (.lst vs')) := by
  obtain ⟨o, e2, k⟩ := g.slot e
  obtain ⟨a, vs, rfl, q0, q1, q2, q3, q4, q5⟩ := own_eq hm k
  refine ⟨a, vs, e2, q1, q2, q3, fun vs' ds' dn => ?_⟩
  have fr : ∀ b o, b ≠ a → H b = some o → L2.upd H a (.lst vs') b = some o := fun b o h e => by rw [upd_ne h]; exact e
  exact g.mutTo e hm e2 upd_same (dn.mono (Mono.but q1 fr)) fr

/-! ### a new list -/
def add (Av : AvS) (p : Addr) : AvS := fun a => Av a ∨ a = p
def rem (Av : AvS) (p : Addr) : AvS := fun a => Av a ∧ a ≠ p
/-- at p stands a new list of ds, which nothing else leans on -/
structure Fresh (c : Cn) (Av : AvS) (σ : L2.St) (H : Hp) (env : Env) (p : Addr) (ds : List D) : Prop where
  g : Good c Av σ H env
  inn : Av p
  no : ∀ (i : Nat) s o, env[i]? = some s → σ[i]? = some o → ownA o s ≠ some p
  n0 : ¬ c.Av0 p
  h0 : c.H0 p = none
  at_ : ∃ vs, H p = some (.lst vs) ∧ Dens Av H vs ds
theorem Mono.shrink (h : ∀ a, Av' a → Av a) : Mono Av H Av' H := ⟨fun a x => .inl (h a x), fun _ _ _ e => e⟩
theorem SlOk.shrink {p : Addr} (hn : ownA o s ≠ some p) (h : SlOk c Av H o s) : SlOk c (rem Av p) H o s := by
  have m : Mono Av H (rem Av p) H := Mono.shrink fun a x => x.1
  cases s with
  | un => trivial
  | val d => obtain ⟨v, e, q⟩ := h; exact ⟨v, e, q.mono m⟩
  | own ds =>
    obtain ⟨b, vs, rfl, q1, q2, q3, q4⟩ := h
    exact ⟨b, vs, rfl, ⟨q1, fun z => hn (by rw [z]; rfl)⟩, q2, q3.mono m, q4⟩
  | bor b ds =>
    obtain ⟨vs, rfl, q1, q2, q3, q4⟩ := h
    exact ⟨vs, rfl, ⟨q1, fun z => hn (by rw [z]; rfl)⟩, q2, q3.mono m, q4⟩
theorem Good.shrink {p : Addr} (g : Good c Av σ H env) (no : ∀ (i : Nat) s o, env[i]? = some s → σ[i]? = some o → ownA o s ≠ some p) (n0 : ¬ c.Av0 p) : Good c (rem Av p) σ H env :=
  ⟨g.len, fun i s o e1 e2 => (g.ok i s o e1 e2).shrink (no i s o e1 e2), g.sep, fun a h => ⟨g.lo a h, fun z => n0 (z ▸ h)⟩, fun a h => g.live a h.1, g.fr, g.pl⟩
theorem Fresh.toVal {p : Addr} {ds : List D} (f : Fresh c Av σ H env p ds) : Good c (rem Av p) σ H env ∧ Den (rem Av p) H (.ref p) (.lst ds) ∧ Mono Av H (rem Av p) H := by
  obtain ⟨vs, e, q⟩ := f.at_
  have m : Mono Av H (rem Av p) H := Mono.shrink fun a x => x.1
  exact ⟨f.g.shrink f.no f.n0, .lst e (fun z => z.2 rfl) (q.mono m), m⟩
theorem Mono.addNew {p : Addr} {ob : HO} (hp : H p = none) : Mono Av H (add Av p) (L2.upd H p ob) := ⟨fun a h => h.imp id (fun z => by rw [z]; exact hp), fun a u _ e => keepNew hp a u e⟩
theorem Good.fresh (g : Good c Av σ H env) {p : Addr} {vs : List V} {ds : List D} (hp : H p = none) (q : Dens Av H vs ds) : Fresh c (add Av p) σ (L2.upd H p (.lst vs)) env p ds := by
  have na := g.notAv hp
  have m : Mono Av H (add Av p) (L2.upd H p (.lst vs)) := Mono.addNew hp
  refine ⟨⟨g.len, fun i s o e1 e2 => (g.ok i s o e1 e2).grow m (fun a h => .inl h) (fun a u _ e => keepNew hp a u e), g.sep, fun a h => .inl (g.lo a h), fun a h => ?_, fun a u np e => keepNew hp a u (g.fr a u np e), fun a h => let ⟨u, e⟩ := g.pl a h; ⟨u, keepNew hp a u e⟩⟩, .inr rfl, fun i s o e1 e2 z => na (ownA_av z (g.ok i s o e1 e2)), fun z => na (g.lo p z), g.free0 hp, vs, upd_same, q.mono m⟩
  rcases h with h | h
  · obtain ⟨u, e⟩ := g.live a h
    exact ⟨u, keepNew hp a u e⟩
  · rw [h]; exact ⟨_, upd_same⟩
theorem Fresh.toOwn {p : Addr} {ds : List D} (f : Fresh c Av σ H env p ds) (i : Nat) : Good c Av (σ.set i (some (.ref p))) H (env.set i (.own ds)) := by
  obtain ⟨vs, e, q⟩ := f.at_
  have g := f.g
  constructor
  · rw [List.length_set, List.length_set]; exact g.len
  · intro j s o e1 e2
    rw [List.getElem?_set] at e1 e2
    by_cases h : i = j
    · subst h
      rw [if_pos rfl] at e1 e2
      split at e1
      · split at e2
        · cases e1; cases e2
          exact ⟨p, vs, rfl, f.inn, e, q, .inr f.h0, f.n0⟩
        · cases e2
      · cases e1
    · rw [if_neg h] at e1 e2
      exact g.ok j s o e1 e2
  · intro j k s t o p' a hjk e1 e2 e3 e4 h1
    rw [List.getElem?_set] at e1 e2 e3 e4
    by_cases h : i = j
    · subst h
      rw [if_pos rfl] at e1 e3
      rw [if_neg hjk] at e2 e4
      split at e1
      · split at e3
        · cases e1; cases e3; cases h1
          exact f.no k t p' e2 e4
        · cases e3
      · cases e1
    · rw [if_neg h] at e1 e3
      by_cases h' : i = k
      · subst h'
        rw [if_pos rfl] at e2 e4
        split at e2
        · split at e4
          · cases e2; cases e4
            intro z; cases z
            exact f.no j s o e1 e3 h1
          · cases e4
        · cases e2
      · rw [if_neg h'] at e2 e4
        exact g.sep j k s t o p' a hjk e1 e2 e3 e4 h1
  · exact g.lo
  · exact g.live
  · exact g.fr
  · exact g.pl
/-- a list of the frame's own is from now on a value -/
theorem Good.freeze {ds : List D} (g : Good c Av σ H env) (e : env[i]? = some (.own ds)) : ∃ Av', Good c Av' σ H (env.set i (.val (.lst ds))) ∧ Mono Av H Av' H := by
  obtain ⟨o, e2, a, vs, rfl, q1, q2, q3, q4, q5⟩ := g.slot e
  have m : Mono Av H (rem Av a) H := Mono.shrink fun b x => x.1
  have hi : i < env.length := (List.getElem?_eq_some_iff.mp e).1
  refine ⟨rem Av a, ?_, m⟩
  constructor
  · rw [List.length_set]; exact g.len
  · intro j s o e1 e3
    rw [List.getElem?_set] at e1
    by_cases h : i = j
    · subst h
      rw [if_pos rfl, if_pos hi] at e1
      cases e1
      rw [e2] at e3; cases e3
      exact ⟨_, rfl, .lst q2 (fun z => z.2 rfl) (q3.mono m)⟩
    · rw [if_neg h] at e1
      exact (g.ok j s o e1 e3).shrink (g.sep i j _ s _ o a h e e1 e2 e3 rfl)
  · intro j k s t o p b hjk e1 e3 e4 e5 h1
    rw [List.getElem?_set] at e1 e3
    by_cases h : i = j
    · subst h
      rw [if_pos rfl, if_pos hi] at e1
      cases e1
      rw [e2] at e4; cases e4
      cases h1
    · rw [if_neg h] at e1
      by_cases h' : i = k
      · subst h'
        rw [if_pos rfl, if_pos hi] at e3
        cases e3
        rw [e2] at e5; cases e5
        exact fun z => nomatch z
      · rw [if_neg h'] at e3
        exact g.sep j k s t o p b hjk e1 e3 e4 e5 h1
  · exact fun b hb => ⟨g.lo b hb, fun z => q5 (z ▸ hb)⟩
  · exact fun b hb => g.live b hb.1
  · exact g.fr
  · exact g.pl

/-! ### a block of its own, where a list at p grows behind the scene -/
def ownsAt (σ : L2.St) (env : Env) : AvS := fun a => ∃ (i : Nat) (s : Sl) (o : Option V), env[i]? = some s ∧ σ[i]? = some o ∧ ownA o s = some a
def blkCn (c : Cn) (p : Addr) (σ : L2.St) (H : Hp) (env : Env) : Cn := ⟨H, fun a => c.Av0 a ∨ a = p, ownsAt σ env⟩
/-- something stands at p that nothing leans on -/
structure Hid (c : Cn) (Av : AvS) (σ : L2.St) (H : Hp) (env : Env) (p : Addr) : Prop where
  g : Good c Av σ H env
  inn : Av p
  no : ∀ (i : Nat) s o, env[i]? = some s → σ[i]? = some o → ownA o s ≠ some p
  n0 : ¬ c.Av0 p
  h0 : c.H0 p = none
theorem Fresh.hid {p : Addr} {ds : List D} (f : Fresh c Av σ H env p ds) : Hid c Av σ H env p := ⟨f.g, f.inn, f.no, f.n0, f.h0⟩
theorem Good.hide (g : Good c Av σ H env) {p : Addr} {ob : HO} (hp : H p = none) : Hid c (add Av p) σ (L2.upd H p ob) env p := by
  have na := g.notAv hp
  have m : Mono Av H (add Av p) (L2.upd H p ob) := Mono.addNew hp
  refine ⟨⟨g.len, fun i s o e1 e2 => (g.ok i s o e1 e2).grow m (fun a h => .inl h) (fun a u _ e => keepNew hp a u e), g.sep, fun a h => .inl (g.lo a h), fun a h => ?_, fun a u np e => keepNew hp a u (g.fr a u np e), fun a h => let ⟨u, e⟩ := g.pl a h; ⟨u, keepNew hp a u e⟩⟩, .inr rfl, fun i s o e1 e2 z => na (ownA_av z (g.ok i s o e1 e2)), fun z => na (g.lo p z), g.free0 hp⟩
  rcases h with h | h
  · obtain ⟨u, e⟩ := g.live a h
    exact ⟨u, keepNew hp a u e⟩
  · rw [h]; exact ⟨_, upd_same⟩
/-- what was hidden is changed, then a value -/
theorem Hid.show {p : Addr} {ob : HO} (f : Hid c Av σ H env p) : Good c (rem Av p) σ (L2.upd H p ob) env ∧ Mono Av H (rem Av p) (L2.upd H p ob) := by
  have g := f.g.shrink f.no f.n0
  have m : Mono (rem Av p) H (rem Av p) (L2.upd H p ob) → Mono Av H (rem Av p) (L2.upd H p ob) := fun m => (Mono.shrink fun a x => x.1).trans m
  have m2 : Mono Av H Av (L2.upd H p ob) := Mono.upd f.inn
  refine ⟨⟨g.len, fun i s o e1 e2 => ?_, g.sep, g.lo, fun b hb => ?_, fun b o np e => ?_, fun b hb => ?_⟩, m2.trans (Mono.shrink fun a x => x.1)⟩
  · exact ((f.g.ok i s o e1 e2).other f.inn (f.no i s o e1 e2) fun b o hb e => by rw [upd_ne hb]; exact e).shrink (f.no i s o e1 e2)
  · obtain ⟨u, e⟩ := g.live b hb
    exact ⟨u, by rw [upd_ne hb.2]; exact e⟩
  · have hb : b ≠ p := fun z => by rw [z, f.h0] at e; cases e
    rw [upd_ne hb]
    exact g.fr b o np e
  · by_cases h : b = p
    · exact ⟨_, by rw [h]; exact upd_same⟩
    · obtain ⟨u, e⟩ := g.pl b hb
      exact ⟨u, by rw [upd_ne h]; exact e⟩
theorem Hid.rebase {p : Addr} (f : Hid c Av σ H env p) : Good (blkCn c p σ H env) Av σ H env where
  len := f.g.len
  ok := fun i s o e1 e2 => by
    have k := f.g.ok i s o e1 e2
    have hn := f.no i s o e1 e2
    cases s with
    | un => trivial
    | val d => exact k
    | own ds =>
      obtain ⟨a, vs, rfl, q1, q2, q3, q4, q5⟩ := k
      exact ⟨a, vs, rfl, q1, q2, q3, .inl ⟨i, _, _, e1, e2, rfl⟩, fun z => z.elim q5 fun z => hn (by rw [← z]; rfl)⟩
    | bor a ds =>
      obtain ⟨vs, rfl, q1, q2, q3, q4⟩ := k
      exact ⟨vs, rfl, q1, q2, q3, .inl ⟨i, _, _, e1, e2, rfl⟩⟩
  sep := f.g.sep
  lo := fun a h => h.elim (f.g.lo a) fun z => by rw [z]; exact f.inn
  live := f.g.live
  fr := fun _ _ _ e => e
  pl := fun a ⟨i, s, o, e1, e2, e3⟩ => f.g.live a (ownA_av e3 (f.g.ok i s o e1 e2))
theorem Hid.unbase {p : Addr} {ob : HO} {σ' : L2.St} {env' : Env} (f : Hid c Av σ H env p) (hv : H p = some ob) (g : Good (blkCn c p σ H env) Av' σ' H' env') (m : Mono Av H Av' H') :
    Good c Av' σ' H' env' ∧ (∀ (i : Nat) s o, env'[i]? = some s → σ'[i]? = some o → ownA o s ≠ some p) ∧ Av' p ∧ H' p = some ob := by
  have hP : ∀ a, ownsAt σ env a → c.P a ∨ c.H0 a = none := fun a ⟨i, s, o, e1, e2, e3⟩ => by
    have k := f.g.ok i s o e1 e2
    cases s with
    | un => cases o with
      | none => cases e3
      | some w => cases w <;> cases e3
    | val d => cases o with
      | none => cases e3
      | some w => cases w <;> cases e3
    | own ds =>
      obtain ⟨b, vs, rfl, q1, q2, q3, q4, q5⟩ := k
      cases e3; exact q4
    | bor b ds =>
      obtain ⟨vs, rfl, q1, q2, q3, q4⟩ := k
      cases e3; exact q4
  have hp : ¬ ownsAt σ env p := fun ⟨i, s, o, e1, e2, e3⟩ => f.no i s o e1 e2 e3
  have hc : ∀ a, (ownsAt σ env a ∨ H a = none) → c.P a ∨ c.H0 a = none := fun a h => h.elim (hP a) fun z => .inr (f.g.free0 z)
  refine ⟨⟨g.len, fun i s o e1 e2 => ?_, g.sep, fun a h => g.lo a (.inl h), g.live, fun a o np e => ?_, fun a h => ?_⟩, fun i s o e1 e2 z => ?_, g.lo p (.inr rfl), g.fr p _ hp hv⟩
  · have k := g.ok i s o e1 e2
    cases s with
    | un => trivial
    | val d => exact k
    | own ds =>
      obtain ⟨a, vs, rfl, q1, q2, q3, q4, q5⟩ := k
      exact ⟨a, vs, rfl, q1, q2, q3, hc a q4, fun z => q5 (.inl z)⟩
    | bor a ds =>
      obtain ⟨vs, rfl, q1, q2, q3, q4⟩ := k
      exact ⟨vs, rfl, q1, q2, q3, hc a q4⟩
  · have e' := f.g.fr a o np e
    by_cases h : ownsAt σ env a
    · rcases hP a h with z | z
      · exact absurd z np
      · rw [z] at e; cases e
    · exact g.fr a o h e'
  · by_cases hh : ownsAt σ env a
    · exact g.pl a hh
    · obtain ⟨u, e⟩ := f.g.pl a h
      exact ⟨u, g.fr a u hh e⟩
  · have k := g.ok i s o e1 e2
    cases s with
    | un => cases o with
      | none => cases z
      | some w => cases w <;> cases z
    | val d => cases o with
      | none => cases z
      | some w => cases w <;> cases z
    | own ds =>
      obtain ⟨a, vs', rfl, q1, q2, q3, q4, q5⟩ := k
      cases z
      exact q5 (.inr rfl)
    | bor a ds =>
      obtain ⟨vs', rfl, q1, q2, q3, q4⟩ := k
      cases z
      rcases q4 with q4 | q4
      · exact hp q4
      · have z : H p = none := q4
        rw [z] at hv; cases hv
end
end DL
set_option Elab.async false
set_option linter.all false
set_option maxRecDepth 100000
set_option maxHeartbeats 4000000
namespace DL
open PySem L2

abbrev AX := Addr → D → Env → Prop
abbrev AE := Env → (D → Env → Prop) → AX → Prop
/-- an expression that makes a new list: its items -/
abbrev AF := Env → (List D → Env → Prop) → AX → Prop
/-- arguments: values, or slots whose lists are handed on -/
inductive Ag where
  | vl (d : D) | rf (i : Nat)
abbrev AA := Env → (List Ag → Env → Prop) → AX → Prop
abbrev AT := Env → (Bool → Env → Prop) → AX → Prop

def ExOk (c : Cn) (Wx : WX) (Av : AvS) (H : Hp) (X : AX) : Prop := ∀ C d env' Av' σ' H' dd v, X C d env' → Good c Av' σ' H' env' → Mono Av H Av' H' → H' dd = some (.xd [("value", v)]) → ¬ Av' dd → Den Av' H' v d → Wx (.ref C) (some dd) σ' H'
theorem ExOk.mono {c : Cn} {Wx : WX} {Av Av' : AvS} {H H' : Hp} {X : AX} (h : ExOk c Wx Av H X) (m : Mono Av H Av' H') : ExOk c Wx Av' H' X :=
  fun C d env' Av'' σ' H'' dd v x g m' e1 e2 e3 => h C d env' Av'' σ' H'' dd v x g (m.trans m') e1 e2 e3

def liftE (c : Cn) (Wx : WX) (w : AE) : TE := fun σ H Q => ∃ Av env Qa Xa, Good c Av σ H env ∧ w env Qa Xa ∧ (∀ d env' v Av' H', Qa d env' → Good c Av' σ H' env' → Mono Av H Av' H' → Den Av' H' v d → Q v H') ∧ ExOk c Wx Av H Xa
def liftT (c : Cn) (Wx : WX) (w : AT) : TT := fun σ H Q => ∃ Av env Qa Xa, Good c Av σ H env ∧ w env Qa Xa ∧ (∀ b env' Av' H', Qa b env' → Good c Av' σ H' env' → Mono Av H Av' H' → Q b H') ∧ ExOk c Wx Av H Xa
def liftF (c : Cn) (Wx : WX) (w : AF) : TE := fun σ H Q => ∃ Av env Qa Xa, Good c Av σ H env ∧ w env Qa Xa ∧ (∀ ds env' p Av' H', Qa ds env' → Fresh c Av' σ H' env' p ds → Mono Av H Av' H' → Q (.ref p) H') ∧ ExOk c Wx Av H Xa
def AgOk (Av : AvS) (σ : L2.St) (H : Hp) (v : V) : Ag → Prop
  | .vl d => Den Av H v d
  | .rf i => σ[i]? = some (some v)
inductive AgsOk (Av : AvS) (σ : L2.St) (H : Hp) : List V → List Ag → Prop
  | nil : AgsOk Av σ H [] []
  | cons {v : V} {vs : List V} {a : Ag} {as : List Ag} : AgOk Av σ H v a → AgsOk Av σ H vs as → AgsOk Av σ H (v :: vs) (a :: as)
theorem AgsOk.mono {Av Av' : AvS} {σ : L2.St} {H H' : Hp} (m : Mono Av H Av' H') : ∀ {vs : List V} {as : List Ag}, AgsOk Av σ H vs as → AgsOk Av' σ H' vs as
  | _, _, .nil => .nil
  | _, .vl d :: _, .cons h t => .cons (Den.mono m h) (t.mono m)
  | _, .rf i :: _, .cons h t => .cons h (t.mono m)
theorem AgsOk.vals {Av : AvS} {σ : L2.St} {H : Hp} : ∀ {vs : List V} {ds : List D}, AgsOk Av σ H vs (ds.map Ag.vl) → Dens Av H vs ds
  | _, [], .nil => .nil
  | _, d :: ds, .cons h t => .cons h t.vals
def liftA (c : Cn) (Wx : WX) (w : AA) : TA := fun σ H Q => ∃ Av env Qa Xa, Good c Av σ H env ∧ w env Qa Xa ∧ (∀ as env' vs Av' H', Qa as env' → Good c Av' σ H' env' → Mono Av H Av' H' → AgsOk Av' σ H' vs as → Q vs H') ∧ ExOk c Wx Av H Xa

section
variable {X : Cx} {c : Cn} {Wx : WX} {e a b : Expr} {pos : Pos}
theorem PE.imp {t t' : TE} (h : ∀ σ H Q, t' σ H Q → t σ H Q) (p : PE X e t) : PE X e t' := ⟨fun pins s σ H Q I q => p.run pins s σ H Q I (h σ H Q q)⟩
theorem PT.imp {t t' : TT} (h : ∀ σ H Q, t' σ H Q → t σ H Q) (p : PT X e t) : PT X e t' := ⟨fun pins s σ H Q I q => p.run pins s σ H Q I (h σ H Q q)⟩
theorem PA.imp {es : List Expr} {t t' : TA} (h : ∀ σ H Q, t' σ H Q → t σ H Q) (p : PA X es t) : PA X es t' := ⟨fun ps pins s σ H Q I q => p.run ps pins s σ H Q I (h σ H Q q)⟩

/-! ### names, constants -/
/-- a name: a value, or a list of the frame's own, which is a value from now on -/
def wVar (i : Nat) (env : Env) (Q : D → Env → Prop) (_ : AX) : Prop := match env[i]? with
  | some (.val d) => Q d env
  | some (.own ds) => Q (.lst ds) (env.set i (.val (.lst ds)))
  | _ => False
def wC (d : D) (env : Env) (Q : D → Env → Prop) (_ : AX) : Prop := Q d env
theorem a_var {i : Nat} {x : Str} (p : PE X (.Name x pos) (tVar i)) : PE X (.Name x pos) (liftE c Wx (wVar i)) := PE.imp (fun σ H Q ⟨Av, env, Qa, Xa, g, q, k, _⟩ => by
  unfold wVar at q
  split at q
  · rename_i d e
    obtain ⟨v, h1, h2⟩ := g.val e
    exact ⟨v, h1, k d env v Av H q g Mono.refl h2⟩
  · rename_i ds e
    obtain ⟨Av', g', m⟩ := g.freeze e
    obtain ⟨v, h1, h2⟩ := g'.val (i := i) (d := .lst ds) (by
      have hi : i < env.length := (List.getElem?_eq_some_iff.mp e).1
      rw [List.getElem?_set, if_pos rfl, if_pos hi])
    exact ⟨v, h1, k _ _ v Av' H q g' m h2⟩
  · exact q.elim) p
theorem a_c {v : V} {d : D} (hd : ∀ Av H, Den Av H v d) (p : PE X e (tC v)) : PE X e (liftE c Wx (wC d)) := PE.imp (fun σ H Q ⟨Av, env, Qa, Xa, g, q, k, _⟩ => k d env v Av H q g Mono.refl (hd _ _)) p
theorem a_int {i : Int} {j} : PE X (.Constant (.int i) j pos) (liftE c Wx (wC (.int i))) := a_c (fun _ _ => .int i) pe_int
theorem a_bl {i : Bool} {j} : PE X (.Constant (.bool i) j pos) (liftE c Wx (wC (.bl i))) := a_c (fun _ _ => .bl i) pe_bl
theorem a_str {i : Str} {j} : PE X (.Constant (.str i) j pos) (liftE c Wx (wC (.str i))) := a_c (fun _ _ => .str i) pe_str
theorem a_non {j} : PE X (.Constant .none j pos) (liftE c Wx (wC .non)) := a_c (fun _ _ => .non) pe_non
theorem a_globA {x : Str} {C : Addr} (p : PE X (.Name x pos) (tC (.ref C))) : PE X (.Name x pos) (liftE c Wx (wC (.atm C))) := a_c (fun _ _ => .atm C) p
theorem a_globT {x : Str} {n : String} (p : PE X (.Name x pos) (tC (.ty n))) : PE X (.Name x pos) (liftE c Wx (wC (.ty n))) := a_c (fun _ _ => .ty n) p

/-! ### a new list as a value -/
def wFv (w : AF) (env : Env) (Q : D → Env → Prop) (X : AX) : Prop := w env (fun ds env' => Q (.lst ds) env') X
theorem a_fv {w : AF} (p : PE X e (liftF c Wx w)) : PE X e (liftE c Wx (wFv w)) := PE.imp (fun σ H Q ⟨Av, env, Qa, Xa, g, q, k, x⟩ =>
  ⟨Av, env, _, Xa, g, q, fun ds env' p Av' H' q f m => k (.lst ds) env' (.ref p) (rem Av' p) H' q f.toVal.1 (m.trans f.toVal.2.2) f.toVal.2.1, x⟩) p

/-! ### two operands -/
abbrev R2D := D → D → (D → Prop) → Prop
abbrev R2F := D → D → (List D → Prop) → Prop
def Live (Av : AvS) (H : Hp) : Prop := ∀ a, Av a → ∃ o, H a = some o
def Grow (H H' : Hp) : Prop := ∀ a o, H a = some o → H' a = some o
theorem Grow.refl {H : Hp} : Grow H H := fun _ _ h => h
/-- an operation upon values, told by what they tell -/
def OpD (r : R2) (R : R2D) : Prop := ∀ Av H x y d1 d2 k Q, Live Av H → Den Av H x d1 → Den Av H y d2 → R d1 d2 k → (∀ d v H', k d → Grow H H' → Den Av H' v d → Q v H') → r x y H Q
def OpF (r : R2) (R : R2F) : Prop := ∀ Av H x y d1 d2 k Q, Live Av H → Den Av H x d1 → Den Av H y d2 → R d1 d2 k → (∀ ds vs p, k ds → H p = none → Dens Av H vs ds → Q (.ref p) (L2.upd H p (.lst vs))) → r x y H Q
def wOp (R : R2D) (wa wb : AE) (env : Env) (Q : D → Env → Prop) (X : AX) : Prop := wa env (fun x env1 => wb env1 (fun y env2 => R x y fun z => Q z env2) X) X
def wOpF (R : R2F) (wa wb : AE) (env : Env) (Q : List D → Env → Prop) (X : AX) : Prop := wa env (fun x env1 => wb env1 (fun y env2 => R x y fun z => Q z env2) X) X
theorem bin_lift {r : R2} {R : R2D} {wa wb : AE} (hr : OpD r R) : ∀ σ H Q, liftE c Wx (wOp R wa wb) σ H Q → tOp r (liftE c Wx wa) (liftE c Wx wb) σ H Q := by
  intro σ H Q ⟨Av, env, Qa, Xa, g, q, k, x⟩
  refine ⟨Av, env, _, Xa, g, q, fun d env' v Av1 H' q1 g1 m1 d1 => ?_, x⟩
  refine ⟨Av1, env', _, Xa, g1, q1, fun d' env'' v' Av2 H'' q2 g2 m2 d2 => ?_, x.mono m1⟩
  refine hr Av2 H'' v v' d d' _ Q g2.live (d1.mono m2) d2 q2 fun z vz Hz qz gr dz => ?_
  exact k z env'' vz Av2 Hz qz (g2.grow gr) ((m1.trans m2).trans (Mono.grow gr)) dz
theorem binF_lift {r : R2} {R : R2F} {wa wb : AE} (hr : OpF r R) : ∀ σ H Q, liftF c Wx (wOpF R wa wb) σ H Q → tOp r (liftE c Wx wa) (liftE c Wx wb) σ H Q := by
  intro σ H Q ⟨Av, env, Qa, Xa, g, q, k, x⟩
  refine ⟨Av, env, _, Xa, g, q, fun d env' v Av1 H' q1 g1 m1 d1 => ?_, x⟩
  refine ⟨Av1, env', _, Xa, g1, q1, fun d' env'' v' Av2 H'' q2 g2 m2 d2 => ?_, x.mono m1⟩
  refine hr Av2 H'' v v' d d' _ Q g2.live (d1.mono m2) d2 q2 fun ds vs p qz hp dz => ?_
  exact k ds env'' p (add Av2 p) _ qz (g2.fresh hp dz) ((m1.trans m2).trans (Mono.addNew hp))
theorem a_op {op : Operator} {r : R2} {R : R2D} {wa wb : AE} (ho : OpR X (binaryOp op) r) (hr : OpD r R) (ha : PE X a (liftE c Wx wa)) (hb : PE X b (liftE c Wx wb)) : PE X (.BinOp a op b pos) (liftE c Wx (wOp R wa wb)) := PE.imp (bin_lift hr) (pe_op ho ha hb)
theorem a_opF {op : Operator} {r : R2} {R : R2F} {wa wb : AE} (ho : OpR X (binaryOp op) r) (hr : OpF r R) (ha : PE X a (liftE c Wx wa)) (hb : PE X b (liftE c Wx wb)) : PE X (.BinOp a op b pos) (liftF c Wx (wOpF R wa wb)) := PE.imp (binF_lift hr) (pe_op ho ha hb)
theorem a_cmp {op : CmpOp} {r : R2} {R : R2D} {wa wb : AE} (ho : OpR X (compareOp op) r) (hr : OpD r R) (ha : PE X a (liftE c Wx wa)) (hb : PE X b (liftE c Wx wb)) (hm : behindInMarks op b = false) : PE X (.Compare a [op] [b] pos) (liftE c Wx (wOp R wa wb)) := PE.imp (bin_lift hr) (pe_cmpR ho ha hb hm)
def wUn (R : D → (D → Prop) → Prop) (wa : AE) (env : Env) (Q : D → Env → Prop) (X : AX) : Prop := wa env (fun x env1 => R x fun z => Q z env1) X
/-- a test that gives a bool -/
def wB (w : AE) (env : Env) (Q : Bool → Env → Prop) (X : AX) : Prop := w env (fun d env' => ∃ b, d = .bl b ∧ Q b env') X
theorem lift_wB {w : AE} {t : TE} (h : ∀ σ H Q, liftE c Wx w σ H Q → t σ H Q) : ∀ σ H Q, liftT c Wx (wB w) σ H Q → t σ H fun x H' => ∃ k, x = .bl k ∧ Q k H' := by
  intro σ H Q ⟨Av, env, Qa, Xa, g, q, k, x⟩
  refine h σ H _ ⟨Av, env, _, Xa, g, q, fun d env' v Av' H' q1 g1 m1 d1 => ?_, x⟩
  obtain ⟨b, rfl, q2⟩ := q1
  cases d1
  exact ⟨b, rfl, k b env' Av' H' q2 g1 m1⟩
theorem t_cmp {op : CmpOp} {r : R2} {R : R2D} {wa wb : AE} (ho : OpR X (compareOp op) r) (hr : OpD r R) (ha : PE X a (liftE c Wx wa)) (hb : PE X b (liftE c Wx wb)) (hm : behindInMarks op b = false) : PT X (.Compare a [op] [b] pos) (liftT c Wx (wB (wOp R wa wb))) :=
  PT.imp (lift_wB (bin_lift hr)) (pt_cmpR ho ha hb hm)
theorem t_val {w : AE} (p : PE X e (liftE c Wx w)) (h : ∀ t, PE X e t → PT X e fun σ H Q => t σ H fun x H' => ∃ k, x = .bl k ∧ Q k H') : PT X e (liftT c Wx (wB w)) := PT.imp (lift_wB fun _ _ _ z => z) (h _ p)
theorem OpD.or {r r' : R2} {R R' : R2D} (h : OpD r R) (h' : OpD r' R') : OpD (fun x y H Q => r x y H Q ∨ r' x y H Q) (fun x y k => R x y k ∨ R' x y k) := fun Av H x y d1 d2 k Q hl a b z kk => by
  rcases z with z | z
  · exact .inl (h Av H x y d1 d2 k Q hl a b z kk)
  · exact .inr (h' Av H x y d1 d2 k Q hl a b z kk)

/-! ### arguments -/
def wNil (env : Env) (Q : List Ag → Env → Prop) (_ : AX) : Prop := Q [] env
def wCons (wa : AE) (wr : AA) (env : Env) (Q : List Ag → Env → Prop) (X : AX) : Prop := wa env (fun x env1 => wr env1 (fun xs env2 => Q (.vl x :: xs) env2) X) X
def wRef (i : Nat) (wr : AA) (env : Env) (Q : List Ag → Env → Prop) (X : AX) : Prop := (∃ s ds, env[i]? = some s ∧ mutOf s = some ds) ∧ wr env (fun xs env2 => Q (.rf i :: xs) env2) X
theorem aa_nil : PA X [] (liftA c Wx wNil) := PA.imp (fun σ H Q ⟨Av, env, Qa, Xa, g, q, k, x⟩ => k [] env [] Av H q g Mono.refl .nil) pa_nil
theorem aa_cons {es : List Expr} {wa : AE} {wr : AA} (ha : PE X e (liftE c Wx wa)) (hr : PA X es (liftA c Wx wr)) (hs : starEach (e :: es) X.env = (false, eval e X.env) :: starEach es X.env := by rfl) : PA X (e :: es) (liftA c Wx (wCons wa wr)) :=
  PA.imp (fun σ H Q ⟨Av, env, Qa, Xa, g, q, k, x⟩ => by
    refine ⟨Av, env, _, Xa, g, q, fun d env' v Av1 H' q1 g1 m1 d1 => ?_, x⟩
    refine ⟨Av1, env', _, Xa, g1, q1, fun as env'' vs Av2 H'' q2 g2 m2 d2 => ?_, x.mono m1⟩
    exact k _ env'' _ Av2 H'' q2 g2 (m1.trans m2) (.cons (Den.mono m2 d1) d2)) (pa_cons ha hr hs)
theorem aa_ref {es : List Expr} {i : Nat} {x : Str} {wr : AA} (hp : PE X (.Name x pos) (tVar i)) (hr : PA X es (liftA c Wx wr)) (hs : starEach ((.Name x pos) :: es) X.env = (false, eval (.Name x pos) X.env) :: starEach es X.env := by rfl) : PA X ((.Name x pos) :: es) (liftA c Wx (wRef i wr)) :=
  PA.imp (fun σ H Q ⟨Av, env, Qa, Xa, g, ⟨⟨s, ds, e1, e2⟩, q⟩, k, x⟩ => by
    obtain ⟨a, vs, e3, _⟩ := g.mutAt e1 e2
    refine ⟨_, e3, Av, env, _, Xa, g, q, fun as env'' vs Av2 H'' q2 g2 m2 d2 => ?_, x⟩
    exact k _ env'' _ Av2 H'' q2 g2 m2 (.cons e3 d2)) (pa_cons hp hr hs)
end
end DL
set_option Elab.async false
set_option linter.all false
set_option maxRecDepth 100000
set_option maxHeartbeats 4000000
namespace DL
open PySem L2

/-! ### statements -/
structure AEnds where
  nx : Env → Prop
  rt : D → Env → Prop
  bk : Env → Prop := fun _ => False
  ct : Env → Prop := fun _ => False
  ex : AX := fun _ _ _ => False
  rf : List D → Env → Prop := fun _ _ => False
abbrev AS := Env → AEnds → Prop
structure EndsOk (c : Cn) (Wx : WX) (Av : AvS) (H : Hp) (A : AEnds) (D : Ends) : Prop where
  nx : ∀ env' Av' σ' H', A.nx env' → Good c Av' σ' H' env' → Mono Av H Av' H' → D.nx σ' H'
  rt : ∀ d env' Av' σ' H' v, A.rt d env' → Good c Av' σ' H' env' → Mono Av H Av' H' → Den Av' H' v d → D.rt v H'
  bk : ∀ env' Av' σ' H', A.bk env' → Good c Av' σ' H' env' → Mono Av H Av' H' → D.bk σ' H'
  ct : ∀ env' Av' σ' H', A.ct env' → Good c Av' σ' H' env' → Mono Av H Av' H' → D.ct σ' H'
  ex : ExOk c Wx Av H A.ex
  rf : ∀ ds env' Av' σ' H' p, A.rf ds env' → Fresh c Av' σ' H' env' p ds → Mono Av H Av' H' → D.rt (.ref p) H'
def liftS (c : Cn) (Wx : WX) (w : AS) : TS := fun D σ H => ∃ Av env A, Good c Av σ H env ∧ w env A ∧ EndsOk c Wx Av H A D
section
variable {X : Cx} {c : Cn} {Wx : WX} {e a b : Expr} {pos : Pos} {Av Av' : AvS} {H H' : Hp} {A : AEnds} {D₀ : Ends}
theorem EndsOk.mono (E : EndsOk c Wx Av H A D₀) (m : Mono Av H Av' H') : EndsOk c Wx Av' H' A D₀ :=
  ⟨fun env' Av'' σ' H'' q g m' => E.nx env' Av'' σ' H'' q g (m.trans m'), fun d env' Av'' σ' H'' v q g m' => E.rt d env' Av'' σ' H'' v q g (m.trans m'),
   fun env' Av'' σ' H'' q g m' => E.bk env' Av'' σ' H'' q g (m.trans m'), fun env' Av'' σ' H'' q g m' => E.ct env' Av'' σ' H'' q g (m.trans m'), E.ex.mono m, fun ds env' Av'' σ' H'' p q f m' => E.rf ds env' Av'' σ' H'' p q f (m.trans m')⟩
theorem PS.imp {st : Stmt} {t t' : TS} (h : ∀ D σ H, t' D σ H → t D σ H) (p : PS X st t) : PS X st t' := ⟨fun pins s σ H D I q => p.run pins s σ H D I (h D σ H q)⟩
theorem PSs.imp {st : List Stmt} {t t' : TS} (h : ∀ D σ H, t' D σ H → t D σ H) (p : PSs X st t) : PSs X st t' := ⟨fun pins s σ H D I q => p.run pins s σ H D I (h D σ H q)⟩
def wNext (env : Env) (A : AEnds) : Prop := A.nx env
def wSeq (w1 w2 : AS) (env : Env) (A : AEnds) : Prop := w1 env { A with nx := fun env' => w2 env' A }
theorem s_nil : PSs X [] (liftS c Wx wNext) := PSs.imp (fun D σ H ⟨Av, env, A, g, q, E⟩ => E.nx env Av σ H q g Mono.refl) pss_nil
theorem s_cons {st : Stmt} {rest : List Stmt} {w1 w2 : AS} (h1 : PS X st (liftS c Wx w1)) (h2 : PSs X rest (liftS c Wx w2)) : PSs X (st :: rest) (liftS c Wx (wSeq w1 w2)) :=
  PSs.imp (fun D σ H ⟨Av, env, A, g, q, E⟩ => ⟨Av, env, _, g, q, ⟨fun env' Av' σ' H' q' g' m' => ⟨Av', env', A, g', q', E.mono m'⟩, E.rt, E.bk, E.ct, E.ex, E.rf⟩⟩) (pss_cons h1 h2)
theorem s_one {st : Stmt} {w1 : AS} (h1 : PS X st (liftS c Wx w1)) : PSs X [st] (liftS c Wx w1) := pss_one h1
def wRet (w : AE) (env : Env) (A : AEnds) : Prop := w env A.rt A.ex
theorem s_ret {w : AE} (he : PE X e (liftE c Wx w)) : PS X (.Return (some e) pos) (liftS c Wx (wRet w)) :=
  PS.imp (fun D σ H ⟨Av, env, A, g, q, E⟩ => ⟨Av, env, _, _, g, q, fun d env' v Av' H' q' g' m' d' => E.rt d env' Av' σ H' v q' g' m' d', E.ex⟩) (ps_ret he)
/-- return a new list -/
def wRetF (w : AF) (env : Env) (A : AEnds) : Prop := w env A.rf A.ex
theorem s_retF {w : AF} (he : PE X e (liftF c Wx w)) : PS X (.Return (some e) pos) (liftS c Wx (wRetF w)) :=
  PS.imp (fun D σ H ⟨Av, env, A, g, q, E⟩ => ⟨Av, env, _, _, g, q, fun ds env' p Av' H' q' f m' => E.rf ds env' Av' σ H' p q' f m', E.ex⟩) (ps_ret he)
def wRetN (env : Env) (A : AEnds) : Prop := A.rt .non env
theorem s_retN : PS X (.Return none pos) (liftS c Wx wRetN) := PS.imp (fun D σ H ⟨Av, env, A, g, q, E⟩ => E.rt .non env Av σ H .non q g Mono.refl .non) ps_retN
theorem s_pass : PS X (.Pass pos) (liftS c Wx wNext) := PS.imp (fun D σ H ⟨Av, env, A, g, q, E⟩ => E.nx env Av σ H q g Mono.refl) ps_pass
def wBreak (env : Env) (A : AEnds) : Prop := A.bk env
def wCont (env : Env) (A : AEnds) : Prop := A.ct env
theorem s_break : PS X (.Break pos) (liftS c Wx wBreak) := PS.imp (fun D σ H ⟨Av, env, A, g, q, E⟩ => E.bk env Av σ H q g Mono.refl) ps_break
theorem s_cont : PS X (.Continue pos) (liftS c Wx wCont) := PS.imp (fun D σ H ⟨Av, env, A, g, q, E⟩ => E.ct env Av σ H q g Mono.refl) ps_continue
def wDrop (w : AE) (env : Env) (A : AEnds) : Prop := w env (fun _ env' => A.nx env') A.ex
theorem s_expr {w : AE} (he : PE X e (liftE c Wx w)) (hs : swapsWith e none pos.line X.env = pure false := by rfl) : PS X (.Expr e pos) (liftS c Wx (wDrop w)) :=
  PS.imp (fun D σ H ⟨Av, env, A, g, q, E⟩ => ⟨Av, env, _, _, g, q, fun d env' v Av' H' q' g' m' d' => E.nx env' Av' σ H' q' g' m', E.ex⟩) (ps_expr he hs)
/-- a target takes what a value tells -/
abbrev AG := D → Env → (Env → Prop) → Prop
def GOk (c : Cn) (g : TG) (w : AG) : Prop := ∀ Av σ H env v d Qe Q, Good c Av σ H env → Den Av H v d → w d env Qe → (∀ env' Av' σ' H', Qe env' → Good c Av' σ' H' env' → Mono Av H Av' H' → Q σ' H') → g v σ H Q
def gN (i : Nat) (d : D) (env : Env) (Q : Env → Prop) : Prop := Q (env.set i (.val d))
theorem gok_name {i : Nat} : GOk c (gName i) (gN i) := fun Av σ H env v d Qe Q g hd q k => k _ Av _ H q (g.setVal hd i) Mono.refl
def wAsg (w : AE) (g : AG) (env : Env) (A : AEnds) : Prop := w env (fun d env' => g d env' A.nx) A.ex
def wSet (i : Nat) (w : AE) (env : Env) (A : AEnds) : Prop := w env (fun d env' => A.nx (env'.set i (.val d))) A.ex
theorem asg_lift {w : AE} {g : TG} {wg : AG} (hg : GOk c g wg) : ∀ D σ H, liftS c Wx (wAsg w wg) D σ H → tAsg (liftE c Wx w) g D σ H := fun D σ H ⟨Av, env, A, gd, q, E⟩ =>
  ⟨Av, env, _, _, gd, q, fun d env' v Av' H' q' g' m' d' => hg Av' σ H' env' v d _ _ g' d' q' fun env'' Av'' σ'' H'' q'' g'' m'' => E.nx env'' Av'' σ'' H'' q'' g'' (m'.trans m''), E.ex⟩
theorem s_asg {tg : Expr} {w : AE} {g : TG} {wg : AG} (p : ∀ te, PE X e te → PS X (.Assign [tg] e pos) (tAsg te g)) (hg : GOk c g wg) (he : PE X e (liftE c Wx w)) : PS X (.Assign [tg] e pos) (liftS c Wx (wAsg w wg)) := PS.imp (asg_lift hg) (p _ he)
theorem s_set {i : Nat} {x : Str} {pos' : Pos} {w : AE} (hN : X.N.Nodup) (hi : X.N[i]? = some x) (hx : Loc X.env.scope x) (he : PE X e (liftE c Wx w)) (hs : swapsWith e (some (.Name x pos')) pos.line X.env = pure false := by rfl) (hf : X.fn x = true ∨ X.env.scope.names.lookup x = some .local := by first | exact .inl rfl | exact .inr rfl | assumption) :
    PS X (.Assign [.Name x pos'] e pos) (liftS c Wx (wSet i w)) := PS.imp (asg_lift (wg := gN i) gok_name) (ps_set hN hi hx he hs hf)
/-- a name takes a new list: the frame's own -/
def wSetF (i : Nat) (w : AF) (env : Env) (A : AEnds) : Prop := w env (fun ds env' => A.nx (env'.set i (.own ds))) A.ex
theorem s_setF {i : Nat} {x : Str} {pos' : Pos} {w : AF} (hN : X.N.Nodup) (hi : X.N[i]? = some x) (hx : Loc X.env.scope x) (he : PE X e (liftF c Wx w)) (hs : swapsWith e (some (.Name x pos')) pos.line X.env = pure false := by rfl) (hf : X.fn x = true ∨ X.env.scope.names.lookup x = some .local := by first | exact .inl rfl | exact .inr rfl | assumption) :
    PS X (.Assign [.Name x pos'] e pos) (liftS c Wx (wSetF i w)) := PS.imp (fun D σ H ⟨Av, env, A, g, q, E⟩ =>
      ⟨Av, env, _, _, g, q, fun ds env' p Av' H' q' f m' => E.nx _ Av' _ H' q' (f.toOwn i) m', E.ex⟩) (ps_set hN hi hx he hs hf)
def wIf (t : AT) (w1 w2 : AS) (env : Env) (A : AEnds) : Prop := t env (fun b env' => if b = true then w1 env' A else w2 env' A) A.ex
theorem s_if {t : AT} {s1 s2 : List Stmt} {w1 w2 : AS} (ht : PT X e (liftT c Wx t)) (h1 : PSs X s1 (liftS c Wx w1)) (h2 : PSs X s2 (liftS c Wx w2)) : PS X (.If e s1 s2 pos) (liftS c Wx (wIf t w1 w2)) :=
  PS.imp (fun D σ H ⟨Av, env, A, g, q, E⟩ => ⟨Av, env, _, _, g, q, fun b env' Av' H' q' g' m' => by
    cases b with
    | true => exact ⟨Av', env', A, g', q', E.mono m'⟩
    | false => exact ⟨Av', env', A, g', q', E.mono m'⟩, E.ex⟩) (ps_if ht h1 h2)

/-! ### what is walked -/
structure ItD (Av1 : AvS) (H1 : Hp) (J : It) (ds : List D) : Prop where
  go : ∀ (i : Nat) d Av H, ds[i]? = some d → Live Av H → Mono Av1 H1 Av H → J.go i H ∧ ∀ x H', J.yld i H x H' → Grow H H' ∧ Den Av H' x d
  stop : ∀ Av H, Mono Av1 H1 Av H → J.stop ds.length H
abbrev AI := Env → (List D → Env → Prop) → AX → Prop
def liftI (c : Cn) (Wx : WX) (w : AI) : TI := fun σ H R => ∃ Av env Qa Xa, Good c Av σ H env ∧ w env Qa Xa ∧ (∀ ds env' Av' H' J, Qa ds env' → Good c Av' σ H' env' → Mono Av H Av' H' → ItD Av' H' J ds → R J H') ∧ ExOk c Wx Av H Xa
theorem PI.imp {tg iter : Expr} {t t' : TI} (h : ∀ σ H Q, t' σ H Q → t σ H Q) (p : PI X tg iter t) : PI X tg iter t' := ⟨fun pins s σ H Q I q => p.run pins s σ H Q I (h σ H Q q)⟩
theorem PI.or {tg iter : Expr} {t t' : TI} (p : PI X tg iter t) (p' : PI X tg iter t') : PI X tg iter (fun σ H R => t σ H R ∨ t' σ H R) := ⟨fun pins s σ H Q I q => by
  rcases q with q | q
  · exact p.run pins s σ H Q I q
  · exact p'.run pins s σ H Q I q⟩
theorem rd_inj {a : Addr} {o u : HO} (h : Rd H a o) (h' : Rd H a u) (hf : ∀ x y, o ≠ .frz x y) (hf' : ∀ x y, u ≠ .frz x y) : o = u := by
  rcases h with h | ⟨ob, h⟩ <;> rcases h' with h' | ⟨ob', h'⟩
  · rw [h] at h'; exact Option.some.inj h'
  · rw [h] at h'; exact absurd (Option.some.inj h') (hf _ _)
  · rw [h] at h'; exact absurd (Option.some.inj h').symm (hf' _ _)
  · rw [h] at h'; cases h'; rfl

theorem itd_list {K : PySem.W.Frag} {a : Addr} {vs : List V} {ds : List D} (h : Rd H a (.lst vs)) (na : ¬ Av a) (q : Dens Av H vs ds) : ItD Av H (Itl K a) ds where
  go := fun i d Av1 H1 e hl m => by
    obtain ⟨v, e1, e2⟩ := q.get e
    have r : SqL K H1 a vs := .inl (m.rd na h).1
    refine ⟨⟨vs, v, r, e1⟩, fun x H' y => ?_⟩
    obtain ⟨rfl, y⟩ := y
    have e3 := y vs r
    rw [e1] at e3; cases e3
    exact ⟨Grow.refl, e2.mono m⟩
  stop := fun Av1 H1 m => ⟨vs, .inl (m.rd na h).1, Nat.le_of_eq q.length⟩
theorem itd_tup {K : PySem.W.Frag} {a : Addr} {vs : List V} {ds : List D} (h : Rd H a (.tup vs)) (na : ¬ Av a) (q : Dens Av H vs ds) : ItD Av H (Itt K a) ds where
  go := fun i d Av1 H1 e hl m => by
    obtain ⟨v, e1, e2⟩ := q.get e
    have r : SqT K H1 a vs := .inl (m.rd na h).1
    refine ⟨⟨vs, v, r, e1⟩, fun x H' y => ?_⟩
    obtain ⟨rfl, y⟩ := y
    have e3 := y vs r
    rw [e1] at e3; cases e3
    exact ⟨Grow.refl, e2.mono m⟩
  stop := fun Av1 H1 m => ⟨vs, .inl (m.rd na h).1, Nat.le_of_eq q.length⟩
def wIn (w : AE) (env : Env) (Q : List D → Env → Prop) (X : AX) : Prop := w env (fun d env' => match d with
  | .lst ds => Q ds env'
  | .tup ds => Q ds env'
  | _ => False) X
def iSeq (K : PySem.W.Frag) (tl : TE) : TI := fun σ H R => tl σ H fun x H1 => ∃ a, x = .ref a ∧ (((∃ xs, SqL K H1 a xs) ∧ R (Itl K a) H1) ∨ ((∃ xs, SqT K H1 a xs) ∧ R (Itt K a) H1))
theorem pi_seq {tg l : Expr} {tl : TE} (hl : PE X l tl) : PI X tg l (iSeq X.K tl) := by
  refine ⟨fun pins s σ H R I h => ?_⟩
  refine thn (hl.run pins s σ H _ I h) fun v s1 ⟨x, H1, I1, rx, a, ex, q⟩ => ?_
  subst ex
  cases rx
  rcases q with ⟨⟨xs, hS⟩, q⟩ | ⟨⟨xs, hS⟩, q⟩
  · obtain ⟨its, rv, p, hz⟩ := I1.list hS
    refine wpAny_pyIter_list p.isList ?_
    refine ⟨s1.heap.objs.size, [s1.heap.objs.size], _, _, H1, rfl, I1.kept (t' := s1.toks) fun b o e => Heap.get?_push_of_some _ e, turn_list a _, ⟨_, Heap.get?_push_size _ rfl, rfl, rfl⟩, fun b hb => ?_, q⟩
    have e : b = s1.heap.objs.size := by simpa using hb
    subst e
    exact I1.fpOk (Nat.le_refl _) (I1.hok.fresh (Nat.le_refl _))
  · obtain ⟨its, rv, p, hz⟩ := I1.tuple hS
    refine wpAny_pyIter_tuple (show s1.heap.IsTuple a its.toArray from p) ?_
    refine ⟨s1.heap.objs.size, [s1.heap.objs.size], _, _, H1, rfl, I1.kept (t' := s1.toks) fun b o e => Heap.get?_push_of_some _ e, turn_tuple a _, ⟨_, Heap.get?_push_size _ rfl, rfl, rfl⟩, fun b hb => ?_, q⟩
    have e : b = s1.heap.objs.size := by simpa using hb
    subst e
    exact I1.fpOk (Nat.le_refl _) (I1.hok.fresh (Nat.le_refl _))
theorem i_in {tg l : Expr} {w : AE} (hl : PE X l (liftE c Wx w)) : PI X tg l (liftI c Wx (wIn w)) := PI.imp (fun σ H R ⟨Av, env, Qa, Xa, g, q, k, x⟩ =>
  ⟨Av, env, _, Xa, g, q, fun d env' v Av' H' q' g' m' d' => by
    cases d' with
    | lst h na ds => exact ⟨_, rfl, .inl ⟨⟨_, .inl (.inl h)⟩, k _ env' Av' H' _ q' g' m' (itd_list (.inl h) na ds)⟩⟩
    | scr => exact q'.elim
    | scrK => exact q'.elim
    | tup h na ds => exact ⟨_, rfl, .inr ⟨⟨_, .inl h⟩, k _ env' Av' H' _ q' g' m' (itd_tup h na ds)⟩⟩
    | non => exact q'.elim
    | bl => exact q'.elim
    | int => exact q'.elim
    | str => exact q'.elim
    | ty => exact q'.elim
    | atm => exact q'.elim
    | dic => exact q'.elim
    | ins => exact q'.elim
    | err => exact q'.elim, x⟩) (pi_seq hl)
/-- range(a), range(a, b) -/
def intsFrom (lo : Int) : Nat → List D
  | 0 => []
  | n + 1 => .int lo :: intsFrom (lo + 1) n
theorem intsFrom_len : ∀ (n : Nat) (lo : Int), (intsFrom lo n).length = n
  | 0, _ => rfl
  | n + 1, lo => by rw [intsFrom, List.length_cons, intsFrom_len]
theorem intsFrom_get : ∀ (n : Nat) (lo : Int) (i : Nat) (d : D), (intsFrom lo n)[i]? = some d → i < n ∧ d = .int (lo + i)
  | 0, _, _, _, e => by simp [intsFrom] at e
  | n + 1, lo, 0, d, e => by simp [intsFrom] at e; subst e; exact ⟨Nat.succ_pos _, by simp⟩
  | n + 1, lo, i + 1, d, e => by
    obtain ⟨h1, h2⟩ := intsFrom_get n (lo + 1) i d (by simpa [intsFrom] using e)
    refine ⟨Nat.succ_lt_succ h1, ?_⟩
    rw [h2]
    congr 1
    omega
theorem itd_range {lo : Int} {n : Nat} : ItD Av H (Itr lo n) (intsFrom lo n) where
  go := fun i d Av1 H1 e hl m => by
    obtain ⟨h1, h2⟩ := intsFrom_get n lo i d e
    refine ⟨h1, fun x H' y => ?_⟩
    obtain ⟨rfl, rfl⟩ := y
    subst h2
    exact ⟨Grow.refl, .int _⟩
  stop := fun Av1 H1 m => by rw [intsFrom_len]; exact Nat.le_refl _
def wRange (w : AA) (env : Env) (Q : List D → Env → Prop) (X : AX) : Prop := w env (fun as env' => match as with
  | [.vl (.int n)] => (-(2 ^ 62) ≤ n ∧ n < 2 ^ 62) ∧ Q (intsFrom 0 n.toNat) env'
  | [.vl (.int m), .vl (.int n)] => (-(2 ^ 62) ≤ m ∧ m < 2 ^ 62 ∧ -(2 ^ 62) ≤ n ∧ n < 2 ^ 62) ∧ Q (intsFrom m (n - m).toNat) env'
  | _ => False) X
theorem i_range1 {tg a : Expr} {p : Pos} {w : AA} (hg : Gl X "range") (hm : X.mg "range" = none) (ha : PA X [a] (liftA c Wx w)) (hs : starEach [a] X.env = [(false, eval a X.env)] := by rfl) : PI X tg (.Call (.Name "range" p) [a] [] pos) (liftI c Wx (wRange fun env Q Z => w env (fun as env' => ∃ n, as = [.vl n] ∧ Q as env') Z)) :=
  PI.imp (fun σ H R ⟨Av, env, Qa, Xa, g, q, k, x⟩ => ⟨Av, env, _, Xa, g, q, fun as env' vs Av' H' q' g' m' d' => by
    obtain ⟨n, rfl, q'⟩ := q'
    cases d' with
    | cons h1 h2 =>
      cases h2
      cases n with
      | int n =>
        cases h1
        exact ⟨n, rfl, q'.1.1, q'.1.2, k _ env' Av' H' _ q'.2 g' m' itd_range⟩
      | _ => exact q'.elim, x⟩) (pi_range1 hg hm ha hs)
theorem i_range2 {tg a b : Expr} {p : Pos} {w : AA} (hg : Gl X "range") (hm : X.mg "range" = none) (ha : PA X [a, b] (liftA c Wx w)) (hs : starEach [a, b] X.env = [(false, eval a X.env), (false, eval b X.env)] := by rfl) (hs2 : starEach [b] X.env = [(false, eval b X.env)] := by rfl) : PI X tg (.Call (.Name "range" p) [a, b] [] pos) (liftI c Wx (wRange fun env Q Z => w env (fun as env' => ∃ m n, as = [.vl m, .vl n] ∧ Q as env') Z)) :=
  PI.imp (fun σ H R ⟨Av, env, Qa, Xa, g, q, k, x⟩ => ⟨Av, env, _, Xa, g, q, fun as env' vs Av' H' q' g' m' d' => by
    obtain ⟨m, n, rfl, q'⟩ := q'
    cases d' with
    | cons h1 h2 =>
      cases h2 with
      | cons h3 h4 =>
        cases h4
        cases m with
        | int m =>
          cases n with
          | int n =>
            cases h1
            cases h3
            exact ⟨m, n, rfl, q'.1, k _ env' Av' H' _ q'.2 g' m' itd_range⟩
          | _ => exact q'.elim
        | _ => cases n <;> exact q'.elim, x⟩) (pi_range2 hg hm ha hs hs2)
/-- for -/
def wFor (wi : AI) (g : AG) (wb : AS) (env : Env) (A : AEnds) : Prop := wi env (fun ds env1 => ∃ Inv : Nat → Env → Prop, Inv 0 env1 ∧
  (∀ (i : Nat) d env', ds[i]? = some d → Inv i env' → g d env' fun env2 => wb env2 { A with nx := Inv (i + 1), ct := Inv (i + 1), bk := A.nx }) ∧ ∀ env', Inv ds.length env' → A.nx env') A.ex
theorem s_for {tg iter : Expr} {body : List Stmt} {wi : AI} {g : TG} {wg : AG} {wb : AS} (hp : PassesOwn (model X.prog X.w) X.A X.env X.xe) (hc : X.calm = true) (hi : PI X tg iter (liftI c Wx wi)) (hg : PG X tg g) (hw : GOk c g wg) (hb : PSs X body (liftS c Wx wb)) (hfs : ∀ x, foldedSetIterable iter X.env x = pure x := by first | exact fun _ => rfl | (intro _; rfl)) :
    PS X (.For tg iter body [] pos) (liftS c Wx (wFor wi wg wb)) := PS.imp (fun D σ H ⟨Av, env, A, gd, q, E⟩ => ⟨Av, env, _, _, gd, q, fun ds env1 Av1 H1 J q1 g1 m1 it => by
      obtain ⟨Inv, i0, is, id⟩ := q1
      refine ⟨fun i m σ' H' => m = ds.length - i ∧ i ≤ ds.length ∧ ∃ env' Av', Inv i env' ∧ Good c Av' σ' H' env' ∧ Mono Av1 H1 Av' H', ⟨_, rfl, Nat.zero_le _, env1, Av1, i0, g1, Mono.refl⟩, ?_⟩
      rintro i m σ' H' ⟨rfl, hi, env', Av', iv, g', m'⟩
      by_cases hlt : i < ds.length
      · obtain ⟨j1, j2⟩ := it.go i ds[i] Av' H' (List.getElem?_eq_getElem hlt) g'.live m'
        refine .inr ⟨j1, fun σ'' H'' => i + 1 ≤ ds.length ∧ ∃ env' Av', Inv (i + 1) env' ∧ Good c Av' σ'' H'' env' ∧ Mono Av1 H1 Av' H'', fun σ'' H'' ⟨h1, h2⟩ => ⟨ds.length - (i + 1), by omega, rfl, h1, h2⟩, fun x Hx y => ?_⟩
        obtain ⟨gr, dx⟩ := j2 x Hx y
        refine hw Av' σ' Hx env' x ds[i] _ _ (g'.grow gr) dx (is i ds[i] env' (List.getElem?_eq_getElem hlt) iv) fun env2 Av2 σ2 H2 q2 g2 m2 => ?_
        have m3 : Mono Av1 H1 Av2 H2 := (m'.trans (Mono.grow gr)).trans m2
        refine ⟨Av2, env2, _, g2, q2, ⟨fun env3 Av3 σ3 H3 q3 g3 m4 => ⟨hlt, env3, Av3, q3, g3, m3.trans m4⟩, fun d env3 Av3 σ3 H3 v q3 g3 m4 => E.rt d env3 Av3 σ3 H3 v q3 g3 ((m1.trans m3).trans m4),
          fun env3 Av3 σ3 H3 q3 g3 m4 => E.nx env3 Av3 σ3 H3 q3 g3 ((m1.trans m3).trans m4), fun env3 Av3 σ3 H3 q3 g3 m4 => ⟨hlt, env3, Av3, q3, g3, m3.trans m4⟩, E.ex.mono (m1.trans m3), fun ds env3 Av3 σ3 H3 pp q3 f3 m4 => E.rf ds env3 Av3 σ3 H3 pp q3 f3 ((m1.trans m3).trans m4)⟩⟩
      · have e : i = ds.length := by omega
        subst e
        exact .inl ⟨it.stop Av' H' m', E.nx env' Av' σ' H' (id env' iv) g' (m1.trans m')⟩, E.ex⟩) (ps_for hp hc hi hg hb hfs)
end
end DL
set_option Elab.async false
set_option linter.all false
set_option maxRecDepth 100000
set_option maxHeartbeats 4000000
/-! A def's promise where nothing is being shown (no repr is under way around the call): what HandS' FnOk says, for such surroundings alone. -/
namespace DL
open PySem PySem.Spec PyProof.Rows L2
/-- nothing is being shown -/
abbrev Calm (A : Around) : Prop := A.guards = some []
structure FnG (P : Program) (w : World) (K : PySem.W.Frag) (mg : Str → Option Value) (base : Heap) (k : Nat) (f : Addr) (fd : FuncData) (ps : List Str) (sp : Sp) : Prop where
  len : ∀ vs H Q E, sp vs H Q E → vs.length = ps.length
  run : ∀ (A : Around), Room k A → Calm A → ∀ (below : List PySem.Env) (s : Shared) (H : Hp), Env0 P w K mg base A below s H → ∀ (gs : Args) (us : List Value) (vs : List V), BindsTo s fd gs (ps.zip us) → Vals vs us →
    ∀ (Q : VK) (E : XK), sp vs H Q E → codeAny (model P w) A (.call (.ref f) gs) (CR (L2.CX P w) below P w H s Q E) s
section
variable {P : Program} {w : World} {K : PySem.W.Frag} {mg : Str → Option Value} {base : Heap} {k : Nat} {f : Addr} {fd : FuncData} {ps N : List Str} {sp : Sp} {x qual : Str} {st : Stmt}
theorem FnG.mono {j : Nat} (F : FnG P w K mg base j f fd ps sp) (h : j ≤ k) : FnG P w K mg base k f fd ps sp := ⟨F.len, fun A hr => F.run A (hr.mono h)⟩
theorem FnG.imp {sp' : Sp} (F : FnG P w K mg base k f fd ps sp) (h : ∀ vs H Q E, sp' vs H Q E → sp vs H Q E) : FnG P w K mg base k f fd ps sp' :=
  ⟨fun vs H Q E q => F.len vs H Q E (h _ _ _ _ q), fun A hr hG below s H e0 gs us vs hb hv Q E q => F.run A hr hG below s H e0 gs us vs hb hv Q E (h _ _ _ _ q)⟩
/-- where a body ends, the call ends -/
theorem ends_call {qual : Str} {sc : Scope} {cdv : Value} {A : Around} {below : List PySem.Env} {s s' : Shared} {H : Hp} {Q : VK} {E : XK} {fl : Flow}
    (q : SP (cxOf (L2.CX P w) P w K mg base N qual sc f cdv A below s H E) [] { nx := fun _ H' => Q .non H', rt := Q } fl s') : CR (L2.CX P w) below P w H s Q E (match fl with | .ret u => .ok (.ret u) | _ => .ok (.ret .none)) s' := by
  cases fl with
  | ret u =>
    obtain ⟨v, σ', H', J, rv, q⟩ := q
    exact ⟨v, H', J.os, J.bare, J.base, J.hok, rv, q⟩
  | next =>
    obtain ⟨σ', H', J, q⟩ := q
    exact ⟨.non, H', J.os, J.bare, J.base, J.hok, rfl, q⟩
  | brk => exact (let ⟨_, _, _, z⟩ := q; z.elim)
  | cont => exact (let ⟨_, _, _, z⟩ := q; z.elim)
theorem FnG.body (F : Fun K x qual st f fd) (S : FnScope N ps (defScope st)) (hl : ∀ vs H Q E, sp vs H Q E → vs.length = ps.length)
    (hb : ∀ (cdv : Value) (A : Around) (below : List PySem.Env) (s : Shared) (H : Hp) (vs : List V) (Q : VK) (E : XK), Room k (A.deeper (PyProof.Rows.envOfC qual (defScope st) s.heap.objs.size f cdv)) → Calm A → sp vs H Q E →
      ∃ t, PSs (cxOf (L2.CX P w) P w K mg base N qual (defScope st) f cdv A below s H E) (defBody st) t ∧ t { nx := fun _ H' => Q .non H', rt := Q } (L2.start N vs) H) : FnG P w K mg base (k + 1) f fd ps sp := by
  obtain ⟨oc, od, kV, doc, pm, an, cdv, ct, osl, rfl, lk, hcd⟩ := F.ex
  refine ⟨hl, fun A hr hG below s H e0 gs us vs bind rel Q E q => ?_⟩
  have up : ∀ b o, base.get? b = some o → s.heap.get? b = some o := fun b o e => (e0.bs b o e).1
  have par : ∀ y ∈ ps.zip us, (defScope st).names.lookup y.1 = some .local ∨ ((defScope st).names.lookup y.1 = some .cell ∧ ((cellsFrom (s.heap.objs.size + 1) (defScope st).names []).lookup y.1).isSome = true) := by
    rintro ⟨n, v⟩ hy
    exact (S.par n (List.of_mem_zip hy).1).imp id fun z => ⟨z, PySem.W.cellsFrom_some _ _ _ (.inl z)⟩
  refine codeAny_call_function hr.depth ((e0.mod.kin.keeps up) _ _ lk) rfl S.co S.gen rfl (PySem.W.codeRec_of (e0.mod.kin.keeps up) hcd) (bind _ _ _ _ (wpAny_newFunctionEnv_cells S.kind par fun env he s1 ic => ?_))
  subst he
  obtain ⟨t, ht, q'⟩ := hb cdv A below s H vs Q E (hr.deeper _) hG q
  refine ⟨(e0.mod.nolimit.keeps up).keeps ic.toInCall.keep, codeAny_func (wpAny_mono (ht.run [] s1 (L2.start N vs) H _ (inv_start S hr.hd e0 (hl _ _ _ _ q) rel ic) q') (fun fl s' z => ?_) fun _ _ z => z)⟩
  have z' := ends_call z
  cases fl with
  | ret u => exact z'
  | next => exact z'
  | brk => exact (let ⟨_, _, _, y⟩ := z; y.elim)
  | cont => exact (let ⟨_, _, _, y⟩ := z; y.elim)
end
section
variable {X : Cx} {k : Nat} {f C : Addr} {fd : FuncData} {ps : List Str} {sp : Sp} {x : Str} {p pos : Pos} {e : Expr} {es : List Expr} {t : TA} {W : WX}
/-- behind a callee -/
theorem back_to {pins : List (Addr × Obj)} {σ : L2.St} {H : Hp} {s s' : Shared} {Q : VK} {r : Result} (tk : Takes X W) (I : Inv X pins σ H s) (h : CR (L2.CX X.prog X.w) X.stack X.prog X.w H s Q (fun cls d H' => W cls d σ H') r s') :
    (∃ u, r = .ok (.ret u) ∧ EP X pins σ Q u s') ∨ ∃ er, r = .error er ∧ X.xe er s' := by
  cases r with
  | error er => exact .inr ⟨er, rfl, passAt tk σ pins H s er s' I h⟩
  | ok fl =>
    cases fl with
    | ret u => exact .inl ⟨u, rfl, I.after h⟩
    | next => exact False.elim h
    | brk => exact False.elim h
    | cont => exact False.elim h
theorem runG {pins : List (Addr × Obj)} {σ : L2.St} {H : Hp} {s : Shared} {Q : VK} {us : List Value} {vs : List V} (F : FnG X.prog X.w X.K X.mg X.base k f fd ps sp) (hr : Room k X.A) (hG : Calm X.A) (hb : Binds X.K fd ps []) (tk : Takes X W) (I : Inv X pins σ H s) (r : Vals vs us)
    (h : sp vs H Q fun cls d H' => W cls d σ H') : wpAny (model X.prog X.w) X.A (call (.ref f) us) (EP X pins σ Q) X.xe s := by
  have hl : (us ++ []).length = ps.length := by rw [List.append_nil, ← r.length]; exact F.len _ _ _ _ h
  have bd := hb s us I.kIn hl
  rw [List.append_nil] at bd
  refine wpAny_call (codeAny_mono (F.run X.A hr hG X.stack s H I.env0 ⟨us, []⟩ us vs bd r Q _ h) fun res s' z => ?_)
  rcases back_to tk I z with ⟨u, rfl, z1⟩ | ⟨er, rfl, z1⟩
  · exact z1
  · exact z1
def tCallG (sp : Sp) (W : WX) (t : TA) : TE := fun σ H Q => t σ H fun vs H1 => sp vs H1 Q fun cls d H' => W cls d σ H'
theorem pe_callG (F : FnG X.prog X.w X.K X.mg X.base k f fd ps sp) (hr : Room k X.A) (hG : Calm X.A) (hg : Gl X x) (hm : X.mg x = some (.ref f)) (hk : PySem.W.keepIn X.K (.ref f) = true) (hb : Binds X.K fd ps []) (tk : Takes X W)
    (ha : PA X (e :: es) t) (hdb : (x == ("__debug__" : Str)) = false := by decide) (he : starEach (e :: es) X.env = (false, eval e X.env) :: starEach es X.env := by rfl) (hpl : (backTo pos (starEach es X.env)).any (·.1) = false := by rfl) :
    PE X (.Call (.Name x p) (e :: es) [] pos) (tCallG sp W t) := ⟨fun pins s σ H Q I h =>
      wpAny_Call_Name_kw (ld_glob I hg hm (PySem.W.callWith_K (h₀ := X.base) I.ok.mod.kin hk (thn (ha.run pos pins s σ H _ I h) fun us s1 ⟨vs, H1, I1, r, q⟩ => ⟨I1.kIn, runG F hr hG hb tk I1 r q⟩) he hpl) hdb)⟩
end
/-- the modules' table stands in the base -/
def SysB (base : Heap) : Prop := ∃ o, base.get? sysModules = some o
/-- the law's own call -/
theorem law_callG {P : Program} {w : World} {K : PySem.W.Frag} {mg mb : Str → Option Value} {k : Nat} {fa a : Addr} {fd : FuncData} {x : Str} {sp : Sp} {s₁ : Shared} {vs : List Value} {ns : List Int}
    (KX : K.In s₁.heap) (hns : s₁.heap.Ns mainGlobals mg) (hb : s₁.heap.Ns builtinsNs mb) (hbb : ∀ x : Str, x ≠ "__name__" → mb x = bootBuiltins x) (hlim : s₁.heap.NoLimit) (hg : s₁.gens = #[])
    (ha : s₁.heap.get? a = some { cls := .type "list", data := .seq vs.toArray }) (hi : IntsAre vs ns) (hl : ns.length ≤ sizeLine) (hr : Room k callerA)
    (hsy : ∃ mm, s₁.heap.Ns sysModules mm) (F : ∀ base : Heap, K.In base → base.Ns mainGlobals mg → SysB base → FnG P w K mg base k fa fd [x] sp) (hbind : ∀ (s : Shared) (u : Value), BindsTo s fd ⟨[u], []⟩ [(x, u)])
    (hsp : ∀ H : Hp, Only H → SqL K H a (ns.map V.int) → sp [.ref a] H (fun v _ => v = .bl true) fun _ _ _ => False) :
    codeAny (model P w) callerA (.call (.ref fa) ⟨[.ref a], []⟩) (fun r s' => r = .ok (.ret (.bool true)) ∧ OldK s₁.heap s'.heap ∧ s'.os = s₁.os ∧ AllBare s'.gens) s₁ := by
  have isD : ∀ {b : Addr} {m : Str → Option Value}, s₁.heap.Ns b m → b ≠ a := by
    rintro b m ⟨o, es, ep, e, d, _⟩ rfl
    rw [ha] at e
    cases e
    have d' : Data.seq vs.toArray _ = Data.dict es ep := d
    cases d'
  -- H: what is tracked at the entry, the script at most
  have go : ∀ H : Hp, Only H → SqL K H a (ns.map V.int) → HOk P w H s₁.heap → (∀ b, b ≠ a → H b = none) → (K.lookup a ≠ none → H a = none) → codeAny (model P w) callerA (.call (.ref fa) ⟨[.ref a], []⟩) (fun r s' => r = .ok (.ret (.bool true)) ∧ OldK s₁.heap s'.heap ∧ s'.os = s₁.os ∧ AllBare s'.gens) s₁ := by
    intro H hO hS hok hne hKa
    have nsH : ∀ {b : Addr} {m : Str → Option Value}, s₁.heap.Ns b m → (hidT s₁.heap H).Ns b m := fun {b m} n => let ⟨o, es, ep, e, r⟩ := n; ⟨o, es, ep, hidT_get e (hne b (isD n)), r⟩
    have inK : K.In (hidT s₁.heap H) := fun b o e => by
      refine hidT_get (KX b o e) ?_
      by_cases h : b = a
      · subst h
        exact hKa (by rw [e]; simp)
      · exact hne b h
    have e0 : Env0 P w K mg (hidT s₁.heap H) callerA [] s₁ H := ⟨rfl, ⟨inK, nsH hns, ⟨mb, nsH hb, hbb⟩, let ⟨mc, h1, h2⟩ := hlim; ⟨mc, nsH h1, h2⟩⟩, fun b o e => of_hidT e, Nat.le_of_eq (hidT_size _ _), trivial, (fun b z => nomatch z), hok, .of_eq hg⟩
    refine codeAny_mono ((F _ inK (nsH hns) (let ⟨mm, n⟩ := hsy; let ⟨o, _, _, e, _⟩ := nsH n; ⟨o, e⟩)).run callerA hr rfl [] s₁ H e0 ⟨[.ref a], []⟩ [.ref a] [.ref a] (hbind s₁ (.ref a)) (.cons rfl .nil) _ _ (hsp H hO hS)) fun r s' h => ?_
    cases r with
    | error er =>
      obtain ⟨_, _, _, _, _, _, _, _, _, _, _, _, z⟩ := h
      exact z.elim
    | ok fl =>
      cases fl with
      | ret u =>
        obtain ⟨v, H', os, bare, un, hok', rv, (q : v = .bl true)⟩ := h
        subst q
        have eu : u = Value.bool true := rv
        subst eu
        refine ⟨rfl, OldK.of_keep fun b o e => ?_, os, bare⟩
        rcases hO b with z | ⟨ob, xs, z⟩
        · exact un.keep b o e z (fun y => nomatch y) (fun y => nomatch y)
        · have e1 := (hok b _ z).1
          have e2 := (hok' b _ (un.frzs b ob _ z)).1
          rw [e] at e1; cases e1
          exact e2
      | next => exact False.elim h
      | brk => exact False.elim h
      | cont => exact False.elim h
  have rv := vals_ints hi
  cases hk : K.lookup a with
  | some o =>
    have e := KX a o hk
    rw [ha] at e
    cases e
    exact go (fun _ => none) (fun _ => .inl rfl) (.inr ⟨_, vs.toArray, _, hk, rfl, rfl, rfl, by rw [List.size_toArray, hi.length]; exact hl, by simpa using rv⟩) (fun b u z => nomatch z) (fun _ _ => rfl) fun _ => rfl
  | none =>
    have sc : ∀ b, (if b = a then some (HO.frz { cls := .type "list", data := .seq vs.toArray } (.lst (ns.map V.int))) else none) = none ∨ b = a := fun b => by
      by_cases h : b = a
      · exact .inr h
      · exact .inl (if_neg h)
    refine go (fun b => if b = a then some (.frz { cls := .type "list", data := .seq vs.toArray } (.lst (ns.map V.int))) else none) (fun b => ?_) (.inl (.inr ⟨_, if_pos rfl⟩)) (fun b u z => ?_) (fun b h => if_neg h) fun z => absurd hk z
    · rcases sc b with h | rfl
      · exact .inl h
      · exact .inr ⟨_, _, if_pos rfl⟩
    · rcases sc b with h | rfl
      · have z' := h.symm.trans z
        cases z'
      · have z' := (if_pos rfl).symm.trans z
        cases z'
        exact ⟨ha, by rw [List.length_map]; exact hl, vs, _, rv, ha⟩
theorem walk_ofG {l : PySem.W.OpenLaw} {n k : Nat} {q : Program} {loose : List Str} {XP : (Str → Option Value) → Heap → Prop} {YP : World → Heap → Prop} {d : DefRec} {K : Params → PySem.W.Frag} {sp : World → Sp} {x : Str}
    (hn : l.most = some n) (hn2 : n ≤ sizeLine) (hdf : d.params.defaults = []) (hr : Room k callerA) (hi : importsNone q = true) (hY : ∀ (w : World) (h : Heap), YP w h → (K w.params).In h)
    (F : ∀ (w : World) (mg : Str → Option Value) (fa : Addr) (h : Heap), (K w.params).In h → h.Ns mainGlobals mg → mg d.name = some (.ref fa) →
      ∃ fd : FuncData, (∀ (s : Shared) (u : Value), BindsTo s fd ⟨[u], []⟩ [(x, u)]) ∧ ∀ base : Heap, (K w.params).In base → base.Ns mainGlobals mg → SysB base → FnG l.prog w (K w.params) mg base k fa fd [x] (sp w))
    (hsp : ∀ (w : World) (H : Hp) (a : Addr) (ns : List Int), ns.length ≤ n → Only H → SqL (K w.params) H a (ns.map V.int) → sp w [.ref a] H (fun v _ => v = .bl true) fun _ _ _ => False) :
    PySem.W.WalkO q loose XP YP l.row.toRowW d [] (fun f vs => PySem.call f vs) := by
  refine Att.attach_call hn hdf fun w s₀ s₁ mg mb fa o pm cd doc a vs ns G Y ho hd hcd hmg hobj hints hlen hg => ?_
  obtain ⟨fd, hb, hF⟩ := F w mg fa _ (hY w _ Y) G.T.g hmg
  exact law_callG (hY w _ Y) G.T.g G.T.b G.T.builtins G.T.nolimit hg hobj hints (Nat.le_trans hlen hn2) hr (let ⟨mm, n, _⟩ := (G.T.seer hi).mods; ⟨mm, n⟩) hF hb fun H hO hS => hsp w H a ns hlen hO hS
end DL
set_option Elab.async false
set_option linter.all false
set_option maxRecDepth 100000
set_option maxHeartbeats 4000000
namespace DL
open PySem L2

/-! ### what a def promises: its arguments (a list that it may change told apart), what follows its answer, what follows its error -/
abbrev Con := List D → List D → (D → List D → Prop) → (Addr → D → Prop) → Prop
/-- the arguments as they stand in a heap; mi: which of them may be changed -/
structure ArgsD (mi : Option Nat) (Av : AvS) (H : Hp) (vs : List V) (ds : List D) (a : Addr) (m : List D) : Prop where
  len : vs.length = ds.length
  vals : ∀ (i : Nat) v d, mi ≠ some i → vs[i]? = some v → ds[i]? = some d → Den Av H v d
  mt : ∀ j, mi = some j → vs[j]? = some (.ref a) ∧ Av a ∧ ∃ ws, H a = some (.lst ws) ∧ Dens Av H ws m
  nm : mi = none → m = []
def passed (mi : Option Nat) (a : Addr) : AvS := fun b => mi.isSome = true ∧ b = a
def FrP (P : AvS) (H H' : Hp) : Prop := ∀ a o, ¬ P a → H a = some o → H' a = some o
def spOf (n : Nat) (mi : Option Nat) (con : Con) : Sp := fun vs H Q E => ∃ Av ds a m Qd Xd, vs.length = n ∧ Live Av H ∧ ArgsD mi Av H vs ds a m ∧ con ds m Qd Xd ∧
  (∀ d m' v H', Qd d m' → Den Av H' v d → (∀ j, mi = some j → ∃ ws, H' a = some (.lst ws) ∧ Dens Av H' ws m') → FrP (passed mi a) H H' → Q v H') ∧
  (∀ C d dd v H', Xd C d → H' dd = some (.xd [("value", v)]) → ¬ Av dd → Den Av H' v d → (∀ j, mi = some j → ∃ ws, H' a = some (.lst ws) ∧ Dens Av H' ws m) → FrP (passed mi a) H H' → E (.ref C) (some dd) H')

def agDs : List Ag → List D
  | [] => []
  | .vl d :: as => d :: agDs as
  | .rf _ :: as => .non :: agDs as
def agR : List Ag → Nat → List (Nat × Nat)
  | [], _ => []
  | .vl _ :: as, n => agR as (n + 1)
  | .rf i :: as, n => (n, i) :: agR as (n + 1)
def wCon (mi : Option Nat) (con : Con) (as : List Ag) (env1 : Env) (Q : D → Env → Prop) (X : AX) : Prop :=
  match agR as 0, mi with
  | [], none => con (agDs as) [] (fun d _ => Q d env1) (fun C d => X C d env1)
  | [(j, i)], some j' => j = j' ∧ ∃ s m, env1[i]? = some s ∧ mutOf s = some m ∧ con (agDs as) m (fun d m' => Q d (env1.set i (setMut s m'))) (fun C d => X C d env1)
  | _, _ => False
def wCall (n : Nat) (mi : Option Nat) (con : Con) (w : AA) (env : Env) (Q : D → Env → Prop) (X : AX) : Prop := w env (fun as env1 => as.length = n ∧ wCon mi con as env1 Q X) X

section
variable {Av Av' : AvS} {H H' : Hp} {σ : L2.St} {c : Cn} {env : Env}
theorem Dens.getBoth : ∀ {vs : List V} {ds : List D} {i : Nat} {v : V} {d : D}, Dens Av H vs ds → vs[i]? = some v → ds[i]? = some d → Den Av H v d
  | _, _, _, _, _, .nil, e, _ => by simp at e
  | _, _, 0, _, _, .cons h _, e, e' => by simp at e e'; subst e; subst e'; exact h
  | _, _, i + 1, _, _, .cons _ t, e, e' => Dens.getBoth (i := i) t (by simpa using e) (by simpa using e')
theorem agDs_len : ∀ as : List Ag, (agDs as).length = as.length
  | [] => rfl
  | .vl d :: as => by rw [agDs, List.length_cons, List.length_cons, agDs_len as]
  | .rf i :: as => by rw [agDs, List.length_cons, List.length_cons, agDs_len as]
theorem AgsOk.length : ∀ {vs : List V} {as : List Ag}, AgsOk Av σ H vs as → vs.length = (agDs as).length
  | _, _, .nil => rfl
  | _, .vl d :: _, .cons _ t => by rw [List.length_cons, agDs, List.length_cons, t.length]
  | _, .rf i :: _, .cons _ t => by rw [List.length_cons, agDs, List.length_cons, t.length]
theorem agR_none : ∀ {vs : List V} {as : List Ag} {n : Nat}, agR as n = [] → AgsOk Av σ H vs as → Dens Av H vs (agDs as)
  | _, [], _, _, .nil => .nil
  | _, .vl d :: as, n, e, .cons h t => .cons h (agR_none (n := n + 1) e t)
theorem agR_one : ∀ {vs : List V} {as : List Ag} {n j i : Nat}, agR as n = [(j, i)] → AgsOk Av σ H vs as → n ≤ j ∧ (∃ v, vs[j - n]? = some v ∧ σ[i]? = some (some v)) ∧ ∀ (l : Nat) v d, l ≠ j - n → vs[l]? = some v → (agDs as)[l]? = some d → Den Av H v d
  | _, .vl d :: as, n, j, i, e, .cons h t => by
    obtain ⟨h1, ⟨v, h2, h3⟩, h4⟩ := agR_one (n := n + 1) e t
    refine ⟨by omega, ⟨v, ?_, h3⟩, fun l w d' hl e1 e2 => ?_⟩
    · have : j - n = (j - (n + 1)) + 1 := by omega
      rw [this]; simpa using h2
    · cases l with
      | zero =>
        simp [agDs] at e1 e2
        subst e1; subst e2
        exact h
      | succ l => exact h4 l w d' (by omega) (by simpa using e1) (by simpa [agDs] using e2)
  | _, .rf i' :: as, n, j, i, e, .cons h t => by
    have e' : (n, i') :: agR as (n + 1) = [(j, i)] := e
    rw [List.cons.injEq, Prod.mk.injEq] at e'
    obtain ⟨⟨rfl, rfl⟩, e2⟩ := e'
    refine ⟨Nat.le_refl _, ⟨_, by simp, h⟩, fun l w d' hl e1 e3 => ?_⟩
    cases l with
    | zero => simp at hl
    | succ l => exact (agR_none e2 t).getBoth (by simpa using e1) (by simpa [agDs] using e3)
/-- the frame ahead of a call, behind it -/
theorem Good.after (g : Good c Av σ H env) (fr : FrP (fun _ => False) H H') : Good c Av σ H' env := g.grow fun a o e => fr a o (fun z => z) e
/-- a call: what its promise asks is told by the arguments -/
theorem call_core {n : Nat} {mi : Option Nat} {con : Con} {as : List Ag} {vs : List V} {Qa : D → Env → Prop} {Xa : AX} {Q : VK} {Wx : WX} {Av0 : AvS} {H0 : Hp} (hn : vs.length = n) (g : Good c Av σ H env) (m0 : Mono Av0 H0 Av H) (ha : AgsOk Av σ H vs as) (q : wCon mi con as env Qa Xa)
    (k : ∀ d env' v Av' H', Qa d env' → Good c Av' σ H' env' → Mono Av0 H0 Av' H' → Den Av' H' v d → Q v H') (x : ExOk c Wx Av0 H0 Xa) : spOf n mi con vs H Q (fun cls d H' => Wx cls d σ H') := by
  unfold wCon at q
  split at q
  · rename_i e
    refine ⟨Av, agDs as, 0, [], _, _, hn, g.live, ⟨ha.length, fun i v d _ e1 e2 => (agR_none e ha).getBoth e1 e2, (fun j z => nomatch z), (fun _ => rfl)⟩, q, fun d m' v H' q' d' _ fr => ?_, fun C d dd v H' q' e1 e2 e3 _ fr => ?_⟩
    · have g' := g.after (H' := H') fun a o _ e => fr a o (fun z => nomatch z.1) e
      exact k d env v Av H' q' g' (m0.trans (Mono.grow fun a o e => fr a o (fun z => nomatch z.1) e)) d'
    · have g' := g.after (H' := H') fun a o _ e => fr a o (fun z => nomatch z.1) e
      exact x C d env Av σ H' dd v q' g' (m0.trans (Mono.grow fun a o e => fr a o (fun z => nomatch z.1) e)) e1 e2 e3
  · rename_i j i j' e
    obtain ⟨rfl, s, m, e1, e2, q⟩ := q
    obtain ⟨_, ⟨v, h2, h3⟩, h4⟩ := agR_one e ha
    obtain ⟨a, ws, h5, av, h6, h7, h8⟩ := g.mutAt e1 e2
    rw [h3] at h5; cases h5
    have back : ∀ H' ws' m', H' a = some (.lst ws') → Dens Av H' ws' m' → FrP (passed (some j) a) H H' → Good c Av σ H' (env.set i (setMut s m')) ∧ Mono Av H Av H' := by
      intro H' ws' m' e3 e4 fr
      exact g.mutTo e1 e2 h3 e3 e4 fun b o hb e => fr b o (fun z => hb z.2) e
    refine ⟨Av, agDs as, a, m, _, _, hn, g.live, ⟨ha.length, fun l w d hl e3 e4 => h4 l w d (fun z => hl (by rw [z]; simp)) e3 e4, fun l z => ?_, fun z => nomatch z⟩, q, fun d m' v H' q' d' mt fr => ?_, fun C d dd v H' q' e3 e4 e5 mt fr => ?_⟩
    · cases z
      exact ⟨by simpa using h2, av, ws, h6, h7⟩
    · obtain ⟨ws', e3, e4⟩ := mt j rfl
      obtain ⟨g', m'⟩ := back H' ws' _ e3 e4 fr
      exact k d _ v Av H' q' g' (m0.trans m') d'
    · obtain ⟨ws', e6, e7⟩ := mt j rfl
      obtain ⟨g', m'⟩ := back H' ws' _ e6 e7 fr
      have es : env.set i (setMut s m) = env := by
        have : setMut s m = s := by
          cases s with
          | un => rfl
          | val d => rfl
          | own ds => cases e2; rfl
          | bor b ds => cases e2; rfl
        rw [this]
        exact List.ext_getElem? fun l => by
          rw [List.getElem?_set]
          by_cases hl : i = l
          · subst hl
            rw [if_pos rfl, if_pos (List.getElem?_eq_some_iff.mp e1).1, e1]
          · rw [if_neg hl]
      rw [es] at g'
      exact x C d env Av σ H' dd v q' g' (m0.trans m') e3 e4 e5
  · exact q.elim
end
section
variable {X : Cx} {c : Cn} {Wx : WX} {e a b : Expr} {es : List Expr} {pos p : Pos} {k n : Nat} {f : Addr} {fd : FuncData} {ps : List Str} {x : Str} {mi : Option Nat} {con : Con} {w : AA}
theorem a_call (F : FnG X.prog X.w X.K X.mg X.base k f fd ps (spOf n mi con)) (hr : Room k X.A) (hG : Calm X.A) (hg : Gl X x) (hm : X.mg x = some (.ref f)) (hk : PySem.W.keepIn X.K (.ref f) = true) (hb : Binds X.K fd ps []) (tk : Takes X Wx) (ha : PA X (e :: es) (liftA c Wx w))
    (hdb : (x == ("__debug__" : Str)) = false := by decide) (he : starEach (e :: es) X.env = (false, eval e X.env) :: starEach es X.env := by rfl) (hpl : (backTo pos (starEach es X.env)).any (·.1) = false := by rfl) :
    PE X (.Call (.Name x p) (e :: es) [] pos) (liftE c Wx (wCall n mi con w)) := PE.imp (fun σ H Q ⟨Av, env, Qa, Xa, g, q, k, x⟩ =>
      ⟨Av, env, _, Xa, g, q, fun as env' vs Av' H' ⟨hl, q'⟩ g' m' d' => call_core (by rw [d'.length]; exact (agDs_len as).trans hl) g' m' d' q' k x, x⟩) (pe_callG F hr hG hg hm hk hb tk ha hdb he hpl)
end
/-! ### a def keeps its promise by its body -/
def parm (mi : Option Nat) (a : Addr) (m : List D) : Nat → List D → Env
  | _, [] => []
  | j, d :: ds => (if mi = some j then Sl.bor a m else Sl.val d) :: parm mi a m (j + 1) ds
def env0 (n : Nat) (mi : Option Nat) (a : Addr) (m : List D) (ds : List D) : Env := parm mi a m 0 ds ++ List.replicate (n - ds.length) .un
theorem parm_len (mi : Option Nat) (a : Addr) (m : List D) : ∀ (j : Nat) (ds : List D), (parm mi a m j ds).length = ds.length
  | _, [] => rfl
  | j, d :: ds => by rw [parm, List.length_cons, List.length_cons, parm_len]
theorem parm_get (mi : Option Nat) (a : Addr) (m : List D) : ∀ (j : Nat) (ds : List D) (i : Nat) (s : Sl), (parm mi a m j ds)[i]? = some s → ∃ d, ds[i]? = some d ∧ s = if mi = some (j + i) then Sl.bor a m else Sl.val d
  | _, [], i, s, e => by simp [parm] at e
  | j, d :: ds, 0, s, e => by simp [parm] at e; exact ⟨d, rfl, by rw [← e]; simp⟩
  | j, d :: ds, i + 1, s, e => by
    obtain ⟨d', h1, h2⟩ := parm_get mi a m (j + 1) ds i s (by simpa [parm] using e)
    exact ⟨d', by simpa using h1, by rw [h2, show j + 1 + i = j + (i + 1) by omega]⟩
/-- what the body must do: from its arguments, to what the promise lets follow -/
def bodyEnds (mi : Option Nat) (a : Addr) (m : List D) (Qd : D → List D → Prop) (Xd : Addr → D → Prop) : AEnds where
  rt := fun d env' => match mi with
    | none => Qd d []
    | some j => ∃ m', env'[j]? = some (.bor a m') ∧ Qd d m'
  nx := fun env' => match mi with
    | none => Qd .non []
    | some j => ∃ m', env'[j]? = some (.bor a m') ∧ Qd .non m'
  ex := fun C d env' => match mi with
    | none => Xd C d
    | some j => env'[j]? = some (.bor a m) ∧ Xd C d
theorem start_get {N : List Str} {vs : List V} {i : Nat} {o : Option V} (e : (L2.start N vs)[i]? = some o) : (∃ v, vs[i]? = some v ∧ o = some v) ∨ (vs.length ≤ i ∧ o = none) := by
  unfold L2.start at e
  by_cases h : i < vs.length
  · rw [List.getElem?_append_left (by simpa using h), List.getElem?_map] at e
    cases q : vs[i]? with
    | none => rw [q] at e; cases e
    | some v => rw [q] at e; cases e; exact .inl ⟨v, rfl, rfl⟩
  · rw [List.getElem?_append_right (by simpa using h), List.getElem?_replicate] at e
    split at e
    · cases e; exact .inr ⟨by omega, rfl⟩
    · cases e
theorem start_good {N : List Str} {vs : List V} {ds : List D} {mi : Option Nat} {Av : AvS} {H : Hp} {a : Addr} {m : List D} {n : Nat} (hl : vs.length = n) (hN : n ≤ N.length) (live : Live Av H) (ad : ArgsD mi Av H vs ds a m) : Good ⟨H, Av, passed mi a⟩ Av (L2.start N vs) H (env0 N.length mi a m ds) := by
  have dl : ds.length = n := by rw [← ad.len, hl]
  have slot : ∀ (i : Nat) s' o, (env0 N.length mi a m ds)[i]? = some s' → (L2.start N vs)[i]? = some o → (s' = .un) ∨ ∃ d v, ds[i]? = some d ∧ vs[i]? = some v ∧ o = some v ∧ s' = if mi = some i then Sl.bor a m else Sl.val d := by
    intro i s' o e1 e2
    unfold env0 at e1
    by_cases h : i < ds.length
    · rw [List.getElem?_append_left (by rw [parm_len]; exact h)] at e1
      obtain ⟨d, h1, h2⟩ := parm_get mi a m 0 ds i s' e1
      rcases start_get e2 with ⟨v, h3, h4⟩ | ⟨h3, _⟩
      · exact .inr ⟨d, v, h1, h3, h4, by rw [h2]; simp⟩
      · omega
    · rw [List.getElem?_append_right (by rw [parm_len]; omega), List.getElem?_replicate] at e1
      split at e1
      · cases e1; exact .inl rfl
      · cases e1
  constructor
  · unfold env0 L2.start
    simp [parm_len]
    omega
  · intro i s' o e1 e2
    rcases slot i s' o e1 e2 with rfl | ⟨d, v, h1, h2, rfl, rfl⟩
    · trivial
    · by_cases hm : mi = some i
      · rw [if_pos hm]
        obtain ⟨h3, h4, ws, h5, h6⟩ := ad.mt i hm
        rw [h2] at h3; cases h3
        exact ⟨ws, rfl, h4, h5, h6, .inl ⟨by rw [hm]; rfl, rfl⟩⟩
      · rw [if_neg hm]
        exact ⟨v, rfl, ad.vals i v d hm h2 h1⟩
  · intro i j s' t o p b hij e1 e2 e3 e4 h1 h2
    have key : ∀ (l : Nat) s' o, (env0 N.length mi a m ds)[l]? = some s' → (L2.start N vs)[l]? = some o → ownA o s' = some b → mi = some l := by
      intro l s' o e1 e2 h1
      rcases slot l s' o e1 e2 with rfl | ⟨d, v, q1, q2, rfl, rfl⟩
      · cases o with
        | none => cases h1
        | some w => cases w <;> cases h1
      · by_cases hm : mi = some l
        · exact hm
        · rw [if_neg hm] at h1
          cases v <;> cases h1
    have z1 := key i s' o e1 e3 h1
    have z2 := key j t p e2 e4 h2
    rw [z1] at z2
    exact hij (Option.some.inj z2)
  · exact fun b hb => hb
  · exact live
  · exact fun b o _ e => e
  · rintro b ⟨h1, rfl⟩
    obtain ⟨j, hj⟩ := Option.isSome_iff_exists.mp h1
    obtain ⟨_, _, ws, h5, _⟩ := ad.mt j hj
    exact ⟨_, h5⟩
theorem fn_A {P : Program} {w : World} {K : PySem.W.Frag} {mg : Str → Option Value} {base : Heap} {x qual : Str} {st : Stmt} {f : Addr} {fd : FuncData} {N ps : List Str} {k n : Nat} {mi : Option Nat} {con : Con} (F : Fun K x qual st f fd) (S : FnScope N ps (defScope st)) (hn : ps.length = n) (hN : n ≤ N.length)
    (body : ∀ (cdv : Value) (A : Around) (outer : List PySem.Env) (s : Shared) (H : Hp) (E : XK) (c : Cn), Room k (A.deeper (PyProof.Rows.envOfC qual (defScope st) s.heap.objs.size f cdv)) → Calm A →
      ∃ W, PSs (cxOf (L2.CX P w) P w K mg base N qual (defScope st) f cdv A outer s H E) (defBody st) (liftS c (fun cls d _ H' => E cls d H') W) ∧
        ∀ a ds m Qd Xd, ds.length = n → (mi = none → m = []) → con ds m Qd Xd → W (env0 N.length mi a m ds) (bodyEnds mi a m Qd Xd)) :
    FnG P w K mg base (k + 1) f fd ps (spOf n mi con) := by
  refine FnG.body F S (fun vs H Q E h => ?_) (fun cdv A outer s H vs Q E hr hG h => ?_)
  · obtain ⟨_, _, _, _, _, _, h, _⟩ := h
    rw [h, hn]
  · obtain ⟨Av, ds, a, m, Qd, Xd, hl, live, ad, q, k1, k2⟩ := h
    obtain ⟨W, hW, hb⟩ := body cdv A outer s H E ⟨H, Av, passed mi a⟩ hr hG
    refine ⟨_, hW, Av, env0 N.length mi a m ds, bodyEnds mi a m Qd Xd, ?_, hb a ds m Qd Xd (by rw [← ad.len, hl]) ad.nm q, ?_⟩
    · exact start_good hl hN live ad
    · have fr : ∀ {Av' : AvS} {σ' : L2.St} {H' : Hp} {env' : Env}, Good ⟨H, Av, passed mi a⟩ Av' σ' H' env' → FrP (passed mi a) H H' := fun g => g.fr
      have am : ∀ {Av' : AvS} {σ' : L2.St} {H' : Hp} {env' : Env} {j : Nat} {m' : List D}, Good ⟨H, Av, passed mi a⟩ Av' σ' H' env' → env'[j]? = some (.bor a m') → ∃ ws, H' a = some (.lst ws) ∧ Dens Av H' ws m' := fun g e => by
        obtain ⟨o, _, vs, _, _, h1, h2, _⟩ := g.slot e
        exact ⟨vs, h1, h2.mono (Mono.shrink g.lo)⟩
      constructor
      · intro env' Av' σ' H' q' g' m'
        cases mi with
        | none => exact k1 .non [] .non H' q' .non (fun j z => nomatch z) (fr g')
        | some j =>
          obtain ⟨m'', e, q''⟩ := q'
          exact k1 .non m'' .non H' q'' .non (fun j' z => by cases z; exact am g' e) (fr g')
      · intro d env' Av' σ' H' v q' g' m' d'
        have d'' : Den Av H' v d := d'.mono (Mono.shrink g'.lo)
        cases mi with
        | none => exact k1 d [] v H' q' d'' (fun j z => nomatch z) (fr g')
        | some j =>
          obtain ⟨m'', e, q''⟩ := q'
          exact k1 d m'' v H' q'' d'' (fun j' z => by cases z; exact am g' e) (fr g')
      · exact fun _ _ _ _ q' => q'.elim
      · exact fun _ _ _ _ q' => q'.elim
      · intro C d env' Av' σ' H' dd v q' g' m' e1 e2 e3
        have d'' : Den Av H' v d := e3.mono (Mono.shrink g'.lo)
        have n' : ¬ Av dd := fun z => e2 (g'.lo dd z)
        cases mi with
        | none => exact k2 C d dd v H' q' e1 n' d'' (fun j z => nomatch z) (fr g')
        | some j =>
          obtain ⟨e, q''⟩ := q'
          exact k2 C d dd v H' q'' e1 n' d'' (fun j' z => by cases z; exact am g' e) (fr g')
      · exact fun _ _ _ _ _ _ q' => q'.elim


/-! ### defs whose answer is a new list -/
abbrev ConF := List D → List D → (List D → List D → Prop) → (Addr → D → Prop) → Prop
def spOfF (n : Nat) (mi : Option Nat) (con : ConF) : Sp := fun vs H Q E => ∃ Av ds a m Qd Xd, vs.length = n ∧ Live Av H ∧ ArgsD mi Av H vs ds a m ∧ con ds m Qd Xd ∧
  (∀ es m' p ws H', Qd es m' → H p = none → H' p = some (.lst ws) → Dens (add Av p) H' ws es → (∀ j, mi = some j → ∃ ws, H' a = some (.lst ws) ∧ Dens (add Av p) H' ws m') → FrP (passed mi a) H H' → Q (.ref p) H') ∧
  (∀ C d dd v H', Xd C d → H' dd = some (.xd [("value", v)]) → ¬ Av dd → Den Av H' v d → (∀ j, mi = some j → ∃ ws, H' a = some (.lst ws) ∧ Dens Av H' ws m) → FrP (passed mi a) H H' → E (.ref C) (some dd) H')
def wConF (mi : Option Nat) (con : ConF) (as : List Ag) (env1 : Env) (Q : List D → Env → Prop) (X : AX) : Prop :=
  match agR as 0, mi with
  | [], none => con (agDs as) [] (fun d _ => Q d env1) (fun C d => X C d env1)
  | [(j, i)], some j' => j = j' ∧ ∃ s m, env1[i]? = some s ∧ mutOf s = some m ∧ con (agDs as) m (fun d m' => Q d (env1.set i (setMut s m'))) (fun C d => X C d env1)
  | _, _ => False
def wCallF (n : Nat) (mi : Option Nat) (con : ConF) (w : AA) (env : Env) (Q : List D → Env → Prop) (X : AX) : Prop := w env (fun as env1 => as.length = n ∧ wConF mi con as env1 Q X) X
def without (H : Hp) (p : Addr) : Hp := fun b => if b = p then none else H b
theorem without_same {H : Hp} {p : Addr} : without H p p = none := if_pos rfl
theorem without_ne {H : Hp} {p b : Addr} (h : b ≠ p) : without H p b = H b := if_neg h
theorem upd_without {H : Hp} {p : Addr} {o : HO} (h : H p = some o) : L2.upd (without H p) p o = H := by
  funext b
  by_cases e : b = p
  · rw [e, upd_same, h]
  · rw [upd_ne e, without_ne e]
theorem Mono.without {Av : AvS} {H : Hp} {p : Addr} : Mono (add Av p) H Av (DL.without H p) := ⟨fun a h => .inl (.inl h), fun a o na e => by rw [without_ne (fun z => na (.inr z))]; exact e⟩
section
variable {Av Av' : AvS} {H H' : Hp} {σ : L2.St} {c : Cn} {env : Env}
/-- a new list that a call hands out -/
theorem Good.handed {p : Addr} {ws : List V} {es : List D} (g : Good c Av σ (DL.without H p) env) (h : H p = some (.lst ws)) (d : Dens (add Av p) H ws es) : Fresh c (add Av p) σ H env p es := by
  have f := g.fresh (p := p) without_same (d.mono Mono.without)
  rw [upd_without h] at f
  exact f
theorem call_coreF {n : Nat} {mi : Option Nat} {con : ConF} {as : List Ag} {vs : List V} {Qa : List D → Env → Prop} {Xa : AX} {Q : VK} {Wx : WX} {Av0 : AvS} {H0 : Hp} (hn : vs.length = n) (g : Good c Av σ H env) (m0 : Mono Av0 H0 Av H) (ha : AgsOk Av σ H vs as) (q : wConF mi con as env Qa Xa)
    (k : ∀ es env' p Av' H', Qa es env' → Fresh c Av' σ H' env' p es → Mono Av0 H0 Av' H' → Q (.ref p) H') (x : ExOk c Wx Av0 H0 Xa) : spOfF n mi con vs H Q (fun cls d H' => Wx cls d σ H') := by
  unfold wConF at q
  split at q
  · rename_i e
    refine ⟨Av, agDs as, 0, [], _, _, hn, g.live, ⟨ha.length, fun i v d _ e1 e2 => (agR_none e ha).getBoth e1 e2, (fun j z => nomatch z), (fun _ => rfl)⟩, q, fun es m' p ws H' q' hp h1 h2 _ fr => ?_, fun C d dd v H' q' e1 e2 e3 _ fr => ?_⟩
    · have gw : ∀ a o, H a = some o → DL.without H' p a = some o := fun a o e => by
        rw [without_ne (fun z => by rw [z, hp] at e; cases e)]
        exact fr a o (fun z => nomatch z.1) e
      have f := Good.handed (g.grow gw) h1 h2
      exact k es env p (add Av p) H' q' f (m0.trans ⟨fun a h => h.elim .inl fun z => .inr (by rw [z]; exact hp), fun a o na e => fr a o (fun z => nomatch z.1) e⟩)
    · have g' := g.after (H' := H') fun a o _ e => fr a o (fun z => nomatch z.1) e
      exact x C d env Av σ H' dd v q' g' (m0.trans (Mono.grow fun a o e => fr a o (fun z => nomatch z.1) e)) e1 e2 e3
  · rename_i j i j' e
    obtain ⟨rfl, s, m, e1, e2, q⟩ := q
    obtain ⟨_, ⟨v, h2, h3⟩, h4⟩ := agR_one e ha
    obtain ⟨a, ws, h5, av, h6, h7, h8⟩ := g.mutAt e1 e2
    rw [h3] at h5; cases h5
    refine ⟨Av, agDs as, a, m, _, _, hn, g.live, ⟨ha.length, fun l w d hl e3 e4 => h4 l w d (fun z => hl (by rw [z]; simp)) e3 e4, fun l z => ?_, fun z => nomatch z⟩, q, fun es m' p ws' H' q' hp g1 g2 mt fr => ?_, fun C d dd v H' q' e3 e4 e5 mt fr => ?_⟩
    · cases z
      exact ⟨by simpa using h2, av, ws, h6, h7⟩
    · obtain ⟨ws2, e3, e4⟩ := mt j rfl
      have hap : a ≠ p := fun z => by rw [← z, h6] at hp; cases hp
      have fr' : ∀ b o, b ≠ a → H b = some o → DL.without H' p b = some o := fun b o hb e => by
        rw [without_ne (fun z => by rw [z, hp] at e; cases e)]
        exact fr b o (fun z => hb z.2) e
      obtain ⟨gg, mm⟩ := g.mutTo e1 e2 h3 (H' := DL.without H' p) (by rw [without_ne hap]; exact e3) (e4.mono Mono.without) fr'
      have f := Good.handed gg g1 g2
      refine k es _ p (add Av p) H' q' f (m0.trans ⟨fun b h => h.elim .inl fun z => .inr (by rw [z]; exact hp), fun b o na e => fr b o (fun z => na (by rw [z.2]; exact av)) e⟩)
    · obtain ⟨ws', e6, e7⟩ := mt j rfl
      obtain ⟨g', m'⟩ := g.mutTo e1 e2 h3 e6 e7 fun b o hb e => fr b o (fun z => hb z.2) e
      have es : env.set i (setMut s m) = env := by
        have : setMut s m = s := by
          cases s with
          | un => rfl
          | val d => rfl
          | own ds => cases e2; rfl
          | bor b ds => cases e2; rfl
        rw [this]
        exact List.ext_getElem? fun l => by
          rw [List.getElem?_set]
          by_cases hl : i = l
          · subst hl
            rw [if_pos rfl, if_pos (List.getElem?_eq_some_iff.mp e1).1, e1]
          · rw [if_neg hl]
      rw [es] at g'
      exact x C d env Av σ H' dd v q' g' (m0.trans m') e3 e4 e5
  · exact q.elim
end
section
variable {X : Cx} {c : Cn} {Wx : WX} {e a b : Expr} {es : List Expr} {pos p : Pos} {k n : Nat} {f : Addr} {fd : FuncData} {ps : List Str} {x : Str} {mi : Option Nat} {con : ConF} {w : AA}
theorem a_callF (F : FnG X.prog X.w X.K X.mg X.base k f fd ps (spOfF n mi con)) (hr : Room k X.A) (hG : Calm X.A) (hg : Gl X x) (hm : X.mg x = some (.ref f)) (hk : PySem.W.keepIn X.K (.ref f) = true) (hb : Binds X.K fd ps []) (tk : Takes X Wx) (ha : PA X (e :: es) (liftA c Wx w))
    (hdb : (x == ("__debug__" : Str)) = false := by decide) (he : starEach (e :: es) X.env = (false, eval e X.env) :: starEach es X.env := by rfl) (hpl : (backTo pos (starEach es X.env)).any (·.1) = false := by rfl) :
    PE X (.Call (.Name x p) (e :: es) [] pos) (liftF c Wx (wCallF n mi con w)) := PE.imp (fun σ H Q ⟨Av, env, Qa, Xa, g, q, k, x⟩ =>
      ⟨Av, env, _, Xa, g, q, fun as env' vs Av' H' ⟨hl, q'⟩ g' m' d' => call_coreF (by rw [d'.length]; exact (agDs_len as).trans hl) g' m' d' q' k x, x⟩) (pe_callG F hr hG hg hm hk hb tk ha hdb he hpl)
end
def bodyEndsF (mi : Option Nat) (a : Addr) (m : List D) (Qd : List D → List D → Prop) (Xd : Addr → D → Prop) : AEnds where
  rt := fun _ _ => False
  nx := fun _ => False
  ex := fun C d env' => match mi with
    | none => Xd C d
    | some j => env'[j]? = some (.bor a m) ∧ Xd C d
  rf := fun ds env' => match mi with
    | none => Qd ds []
    | some j => ∃ m', env'[j]? = some (.bor a m') ∧ Qd ds m'
theorem fn_AF {P : Program} {w : World} {K : PySem.W.Frag} {mg : Str → Option Value} {base : Heap} {x qual : Str} {st : Stmt} {f : Addr} {fd : FuncData} {N ps : List Str} {k n : Nat} {mi : Option Nat} {con : ConF} (F : Fun K x qual st f fd) (S : FnScope N ps (defScope st)) (hn : ps.length = n) (hN : n ≤ N.length)
    (body : ∀ (cdv : Value) (A : Around) (outer : List PySem.Env) (s : Shared) (H : Hp) (E : XK) (c : Cn), Room k (A.deeper (PyProof.Rows.envOfC qual (defScope st) s.heap.objs.size f cdv)) → Calm A →
      ∃ W, PSs (cxOf (L2.CX P w) P w K mg base N qual (defScope st) f cdv A outer s H E) (defBody st) (liftS c (fun cls d _ H' => E cls d H') W) ∧
        ∀ a ds m Qd Xd, ds.length = n → (mi = none → m = []) → con ds m Qd Xd → W (env0 N.length mi a m ds) (bodyEndsF mi a m Qd Xd)) :
    FnG P w K mg base (k + 1) f fd ps (spOfF n mi con) := by
  refine FnG.body F S (fun vs H Q E h => ?_) (fun cdv A outer s H vs Q E hr hG h => ?_)
  · obtain ⟨_, _, _, _, _, _, h, _⟩ := h
    rw [h, hn]
  · obtain ⟨Av, ds, a, m, Qd, Xd, hl, live, ad, q, k1, k2⟩ := h
    obtain ⟨W, hW, hb⟩ := body cdv A outer s H E ⟨H, Av, passed mi a⟩ hr hG
    refine ⟨_, hW, Av, env0 N.length mi a m ds, bodyEndsF mi a m Qd Xd, start_good hl hN live ad, hb a ds m Qd Xd (by rw [← ad.len, hl]) ad.nm q, ?_⟩
    have am : ∀ {Av' : AvS} {σ' : L2.St} {H' : Hp} {env' : Env} {j : Nat} {m' : List D}, Good ⟨H, Av, passed mi a⟩ Av' σ' H' env' → env'[j]? = some (.bor a m') → ∃ ws, H' a = some (.lst ws) ∧ Dens Av' H' ws m' := fun g e => by
      obtain ⟨o, _, vs, _, _, h1, h2, _⟩ := g.slot e
      exact ⟨vs, h1, h2⟩
    constructor
    · exact fun _ _ _ _ q' => q'.elim
    · exact fun _ _ _ _ _ _ q' => q'.elim
    · exact fun _ _ _ _ q' => q'.elim
    · exact fun _ _ _ _ q' => q'.elim
    · intro C d env' Av' σ' H' dd v q' g' m' e1 e2 e3
      have d'' : Den Av H' v d := e3.mono (Mono.shrink g'.lo)
      have n' : ¬ Av dd := fun z => e2 (g'.lo dd z)
      cases mi with
      | none => exact k2 C d dd v H' q' e1 n' d'' (fun j z => nomatch z) g'.fr
      | some j =>
        obtain ⟨e, q''⟩ := q'
        exact k2 C d dd v H' q'' e1 n' d'' (fun j' z => by
          cases z
          obtain ⟨ws, h1, h2⟩ := am g' e
          exact ⟨ws, h1, h2.mono (Mono.shrink g'.lo)⟩) g'.fr
    · intro es env' Av' σ' H' p q' f m'
      obtain ⟨ws, h1, h2⟩ := f.at_
      have lo : ∀ b, add Av p b → Av' b := fun b h => h.elim (f.g.lo b) fun z => by rw [z]; exact f.inn
      cases mi with
      | none => exact k1 es [] p ws H' q' f.h0 h1 (h2.mono (Mono.shrink lo)) (fun j z => nomatch z) f.g.fr
      | some j =>
        obtain ⟨m'', e, q''⟩ := q'
        exact k1 es m'' p ws H' q'' f.h0 h1 (h2.mono (Mono.shrink lo)) (fun j' z => by
          cases z
          obtain ⟨ws2, g1, g2⟩ := am f.g e
          exact ⟨ws2, g1, g2.mono (Mono.shrink lo)⟩) f.g.fr
end DL
set_option Elab.async false
set_option linter.all false
set_option maxRecDepth 100000
set_option maxHeartbeats 4000000
namespace DL
open PySem L2

section
variable {X : Cx} {c : Cn} {Wx : WX} {e a b : Expr} {es : List Expr} {pos p : Pos}
/-! ### displays -/
theorem Dens.of_ags {Av : AvS} {σ : L2.St} {H : Hp} {vs : List V} {as : List Ag} (h : AgsOk Av σ H vs as) (e : agR as 0 = []) : Dens Av H vs (agDs as) := agR_none e h
def wTup (w : AA) (env : Env) (Q : D → Env → Prop) (X : AX) : Prop := w env (fun as env' => (agR as 0 = [] ∧ as.length ≤ sizeLine) ∧ Q (.tup (agDs as)) env') X
theorem a_tup {w : AA} {x1} (h : PA X es (liftA c Wx w)) : PE X (.Tuple es x1 pos) (liftE c Wx (wTup w)) := PE.imp (fun σ H Q ⟨Av, env, Qa, Xa, g, q, k, x⟩ =>
  ⟨Av, env, _, Xa, g, q, fun as env' vs Av' H' ⟨⟨e1, e2⟩, q'⟩ g' m' d' => ⟨by rw [d'.length, agDs_len]; exact e2, fun p hp =>
    k _ env' (.ref p) Av' _ q' (g'.new hp) (m'.trans (Mono.new hp)) (.tup (.inl upd_same) (g'.notAv hp) ((Dens.of_ags d' e1).mono (Mono.new hp)))⟩, x⟩) (pe_tup h)
def wLst (w : AA) (env : Env) (Q : List D → Env → Prop) (X : AX) : Prop := w env (fun as env' => (agR as 0 = [] ∧ as.length ≤ sizeLine) ∧ Q (agDs as) env') X
theorem a_lst {w : AA} (h : PA X es (liftA c Wx w)) : PE X (.List es pos) (liftF c Wx (wLst w)) := PE.imp (fun σ H Q ⟨Av, env, Qa, Xa, g, q, k, x⟩ =>
  ⟨Av, env, _, Xa, g, q, fun as env' vs Av' H' ⟨⟨e1, e2⟩, q'⟩ g' m' d' => ⟨by rw [d'.length, agDs_len]; exact e2, fun p hp =>
    k _ env' p (add Av' p) _ q' (g'.fresh hp (Dens.of_ags d' e1)) (m'.trans (Mono.addNew hp))⟩, x⟩) (pe_lst h)

/-! ### items -/
def atD (K : PySem.W.Frag) : D → D → (D → Prop) → Prop
  | .lst ds, .int i, k => ∃ d, atI ds i = some d ∧ k d
  | .tup ds, .int i, k => ∃ d, atI ds i = some d ∧ k d
  | .scr K' ns, .int i, k => K' = K ∧ ∃ n, atI ns i = some n ∧ k (.int n)
  | .str s, .int i, k => s.length ≤ sizeLine ∧ ∃ ch, atI s.cps.toList i = some ch ∧ k (.str ⟨#[ch]⟩)
  | _, _, _ => False
theorem Dens.atI {Av : AvS} {H : Hp} {vs : List V} {ds : List D} {i : Int} {d : D} (h : Dens Av H vs ds) (e : L2.atI ds i = some d) : ∃ v, L2.atI vs i = some v ∧ Den Av H v d := by
  unfold L2.atI at e ⊢
  rw [h.length]
  cases q : ixN ds.length i with
  | none => rw [q] at e; cases e
  | some j =>
    rw [q] at e
    exact h.get e
theorem map_atI {α β : Type} {f : α → β} {xs : List α} {i : Int} {x : α} (e : L2.atI xs i = some x) : L2.atI (xs.map f) i = some (f x) := by
  unfold L2.atI at e ⊢
  rw [List.length_map]
  cases q : ixN xs.length i with
  | none => rw [q] at e; cases e
  | some j =>
    rw [q] at e
    have e' : xs[j]? = some x := e
    show (xs.map f)[j]? = some (f x)
    rw [List.getElem?_map, e']
    rfl
theorem opd_ix {K : PySem.W.Frag} : OpD (rIx K) (atD K) := by
  intro Av H x y d1 d2 k Q hl h1 h2 r kk
  cases h2 with
  | int i =>
    cases h1 with
    | lst h na q =>
      obtain ⟨d, e, r⟩ := r
      obtain ⟨v, e1, e2⟩ := q.atI e
      exact .inl ⟨_, _, i, v, rfl, rfl, .inl (.inl h), e1, kk d v H r Grow.refl e2⟩
    | tup h na q =>
      obtain ⟨d, e, r⟩ := r
      obtain ⟨v, e1, e2⟩ := q.atI e
      exact .inr (.inl ⟨_, _, i, v, rfl, rfl, .inl h, e1, kk d v H r Grow.refl e2⟩)
    | @scr K' a ns h na =>
      obtain ⟨eK, n, e, r⟩ := r
      exact .inl ⟨_, _, i, .int n, rfl, rfl, .inl h, map_atI e, kk _ _ H r Grow.refl (.int n)⟩
    | scrK h =>
      obtain ⟨rfl, n, e, r⟩ := r
      exact .inl ⟨_, _, i, .int n, rfl, rfl, .inr h, map_atI e, kk _ _ H r Grow.refl (.int n)⟩
    | str s =>
      obtain ⟨h0, ch, e, r⟩ := r
      exact .inr (.inr ⟨s, i, ch, rfl, rfl, h0, e, kk _ _ H r Grow.refl (.str _)⟩)
    | _ => exact False.elim r
  | _ => cases h1 <;> exact False.elim r
/-- dicts by int and text keys -/
def keyD : D → Option Key
  | .int i => some (.inl i)
  | .str s => some (.inr s)
  | _ => none
def dget : List Key → List D → Key → Option D
  | k :: ks, d :: ds, key => if k = key then some d else dget ks ds key
  | _, _, _ => none
theorem dget_val {Av : AvS} {H : Hp} {key : Key} : ∀ {kvs : List (Key × V)} {ds : List D}, Dens Av H (kvs.map (·.2)) ds → (∀ d, dget (kvs.map (·.1)) ds key = some d → ∃ v, valV kvs key = some v ∧ Den Av H v d) ∧ (dget (kvs.map (·.1)) ds key = none → valV kvs key = none)
  | [], _, h => by
    cases h
    exact ⟨fun d e => by simp [dget] at e, fun _ => rfl⟩
  | (k, v) :: kvs, _, h => by
    cases h with
    | @cons _ _ d ds h t =>
      obtain ⟨h1, h2⟩ := dget_val (key := key) t
      by_cases e : k = key
      · subst e
        exact ⟨fun d' e' => by
          simp [dget] at e'
          subst e'
          exact ⟨v, valV_pos rfl, h⟩, fun e' => by simp [dget] at e'⟩
      · exact ⟨fun d' e' => by
          simp [dget, e] at e'
          obtain ⟨v', h3, h4⟩ := h1 d' e'
          exact ⟨v', by rw [valV_neg e]; exact h3, h4⟩, fun e' => by
          simp [dget, e] at e'
          rw [valV_neg e]
          exact h2 e'⟩
theorem keyD_kV {Av : AvS} {H : Hp} {v : V} {d : D} {k : Key} (h : Den Av H v d) (e : keyD d = some k) : v = kV k := by
  cases h <;> cases e <;> rfl
def atDd (K : PySem.W.Frag) : D → D → (D → Prop) → Prop
  | .dic ks ds, y, k => ∃ key d, keyD y = some key ∧ dget ks ds key = some d ∧ k d
  | x, y, k => atD K x y k
def rIxA (K : PySem.W.Frag) : R2 := fun x y H Q => rIx K x y H Q ∨ ∃ a v, x = .ref a ∧ DGet H a y (some v) ∧ Q v H
theorem ix_any (hu : X.A.units + 1 < cLine) : IxR X (rIxA X.K) := ix_seq.or (by
  intro value slice pins s σ H x y v u Q I rx ry h hs
  obtain ⟨a, z, rfl, g, q⟩ := h
  cases rx
  exact PyProof.Rows.tail_any (dict_typeIs I g) PySem.F.slot_dict_getitem.lookup (d_getItem hu I g ry fun w' s3 I3 rw' => ⟨z, H, I3, rw', q⟩) hs)
theorem opd_ixA {K : PySem.W.Frag} : OpD (rIxA K) (atDd K) := by
  intro Av H x y d1 d2 k Q hl h1 h2 r kk
  cases h1 with
  | dic h na q =>
    obtain ⟨key, d, e1, e2, r⟩ := r
    obtain ⟨v, e3, e4⟩ := (dget_val q).1 d e2
    exact .inr ⟨_, v, rfl, .inl ⟨_, key, h, keyD_kV h2 e1, e3.symm⟩, kk d v H r Grow.refl e4⟩
  | non => exact .inl (opd_ix Av H _ y _ d2 k Q hl .non h2 r kk)
  | bl b => exact .inl (opd_ix Av H _ y _ d2 k Q hl (.bl b) h2 r kk)
  | int i => exact .inl (opd_ix Av H _ y _ d2 k Q hl (.int i) h2 r kk)
  | str b => exact .inl (opd_ix Av H _ y _ d2 k Q hl (.str b) h2 r kk)
  | ty b => exact .inl (opd_ix Av H _ y _ d2 k Q hl (.ty b) h2 r kk)
  | atm b => exact .inl (opd_ix Av H _ y _ d2 k Q hl (.atm b) h2 r kk)
  | tup h na q => exact .inl (opd_ix Av H _ y _ d2 k Q hl (.tup h na q) h2 r kk)
  | lst h na q => exact .inl (opd_ix Av H _ y _ d2 k Q hl (.lst h na q) h2 r kk)
  | ins h na q => exact .inl (opd_ix Av H _ y _ d2 k Q hl (.ins h na q) h2 r kk)
  | err h h2' na ne q => exact .inl (opd_ix Av H _ y _ d2 k Q hl (.err h h2' na ne q) h2 r kk)
  | scr h na => exact .inl (opd_ix Av H _ y _ d2 k Q hl (.scr h na) h2 r kk)
  | scrK h => exact .inl (opd_ix Av H _ y _ d2 k Q hl (.scrK h) h2 r kk)
theorem a_ix {wa wb : AE} (hu : X.A.units + 1 < cLine) (ha : PE X a (liftE c Wx wa)) (hb : PE X b (liftE c Wx wb)) (hs : PlainIx b) : PE X (.Subscript a b pos) (liftE c Wx (wOp (atDd X.K) wa wb)) := PE.imp (bin_lift opd_ixA) (pe_ix (ix_any hu) ha hb hs)
/-- an item of a list that may change -/
def wIxM (i : Nat) (wb : AE) (env : Env) (Q : D → Env → Prop) (X : AX) : Prop := (∃ s ds, env[i]? = some s ∧ mutOf s = some ds) ∧ wb env (fun y env1 => ∃ s ds n d, env1[i]? = some s ∧ mutOf s = some ds ∧ y = .int n ∧ atI ds n = some d ∧ Q d env1) X
theorem a_ixM {i : Nat} {x : Str} {wb : AE} (hp : PE X (.Name x p) (tVar i)) (hb : PE X b (liftE c Wx wb)) (hs : PlainIx b) : PE X (.Subscript (.Name x p) b pos) (liftE c Wx (wIxM i wb)) := PE.imp (fun σ H Q ⟨Av, env, Qa, Xa, g, ⟨⟨s, ds, e1, e2⟩, q⟩, k, x⟩ => by
  obtain ⟨a, vs, e3, _⟩ := g.mutAt e1 e2
  refine ⟨_, e3, Av, env, _, Xa, g, q, fun y env1 v Av1 H1 q1 g1 m1 d1 => ?_, x⟩
  obtain ⟨s', ds', n, d, f1, f2, rfl, f3, q1⟩ := q1
  obtain ⟨a', vs', f4, f5, f6, f7, _⟩ := g1.mutAt f1 f2
  rw [e3] at f4; cases f4
  cases d1
  obtain ⟨z, f8, f9⟩ := f7.atI f3
  exact .inl ⟨a, vs', n, z, rfl, rfl, .inl (.inl f6), f8, k d env1 z Av1 H1 q1 g1 m1 f9⟩) (pe_ix ix_seq hp hb hs)
/-- pot[i] = e -/
def wSetM (i : Nat) (wv wi : AE) (env : Env) (A : AEnds) : Prop := wv env (fun v env1 => (∃ s ds, env1[i]? = some s ∧ mutOf s = some ds) ∧ wi env1 (fun y env2 => ∃ s ds n j, env2[i]? = some s ∧ mutOf s = some ds ∧ y = .int n ∧ ixN ds.length n = some j ∧ A.nx (env2.set i (setMut s (ds.set j v)))) A.ex) A.ex
theorem s_setM {i : Nat} {x : Str} {px ps : Pos} {wv wi : AE} (hp : PE X (.Name x px) (tVar i)) (hi : PE X b (liftE c Wx wi)) (hv : PE X e (liftE c Wx wv))
    (pr : ∀ tv ti, PE X e tv → PE X b ti → PS X (.Assign [.Subscript (.Name x px) b ps] e pos) (tAsg tv (gSub (tVar i) ti rSetL))) :
    PS X (.Assign [.Subscript (.Name x px) b ps] e pos) (liftS c Wx (wSetM i wv wi)) := PS.imp (fun D σ H ⟨Av, env, A, g, q, E⟩ => by
  refine ⟨Av, env, _, _, g, q, fun v env1 vv Av1 H1 q1 g1 m1 d1 => ?_, E.ex⟩
  obtain ⟨⟨s, ds, e1, e2⟩, q1⟩ := q1
  obtain ⟨a, vs, e3, _⟩ := g1.mutAt e1 e2
  refine ⟨_, e3, Av1, env1, _, _, g1, q1, fun y env2 vy Av2 H2 q2 g2 m2 d2 => ?_, E.ex.mono m1⟩
  obtain ⟨s', ds', n, j, f1, f2, rfl, f3, q2⟩ := q2
  obtain ⟨a', vs', f4, f5, f6, f7, f8⟩ := g2.mutAt f1 f2
  rw [e3] at f4; cases f4
  cases d2
  obtain ⟨g3, m3⟩ := f8 _ _ (f7.set j (d1.mono m2))
  exact ⟨a, vs', n, j, rfl, rfl, f6, by rw [f7.length]; exact f3, E.nx _ Av2 σ _ q2 g3 ((m1.trans m2).trans m3)⟩) (pr _ _ hv hi)

/-! ### numbers -/
def addD : D → D → (D → Prop) → Prop
  | .int i, .int j, k => k (.int (i + j))
  | .int i, .bl j, k => k (.int (i + PyProof.Rows.b2i j))
  | .str s, .str t, k => s.length + t.length ≤ sizeLine ∧ k (.str (s ++ t))
  | _, _, _ => False
def rAddA : R2 := fun x y H Q => (∃ i j, x = .int i ∧ y = .int j ∧ Q (.int (i + j)) H) ∨ (∃ i k, x = .int i ∧ y = .bl k ∧ Q (.int (i + PyProof.Rows.b2i k)) H) ∨ ∃ i j, x = .str i ∧ y = .str j ∧ i.length + j.length ≤ sizeLine ∧ Q (.str (i ++ j)) H
theorem op_addA : OpR X (binaryOp .Add) rAddA := op_add.or (op_add_ib.or op_add_str)
theorem opd_add : OpD rAddA addD := by
  intro Av H x y d1 d2 k Q hl h1 h2 r kk
  cases h1 with
  | int i =>
    cases h2 with
    | int j => exact .inl ⟨i, j, rfl, rfl, kk _ _ H r Grow.refl (.int _)⟩
    | bl j => exact .inr (.inl ⟨i, j, rfl, rfl, kk _ _ H r Grow.refl (.int _)⟩)
    | _ => exact False.elim r
  | str s =>
    cases h2 with
    | str t => exact .inr (.inr ⟨s, t, rfl, rfl, r.1, kk _ _ H r.2 Grow.refl (.str _)⟩)
    | _ => exact False.elim r
  | _ => cases h2 <;> exact False.elim r
/-- list + list -/
def catD : D → D → (List D → Prop) → Prop
  | .lst a, .lst b, k => a.length + b.length ≤ sizeLine ∧ k (a ++ b)
  | _, _, _ => False
theorem opf_cat : OpF rCat catD := by
  intro Av H x y d1 d2 k Q hl h1 h2 r kk
  cases h1 with
  | lst ha na qa =>
    cases h2 with
    | lst hb nb qb => exact ⟨_, _, _, _, rfl, rfl, ha, hb, by rw [qa.length, qb.length]; exact r.1, fun p hp => kk _ _ p r.2 hp (qa.append qb)⟩
    | _ => exact False.elim r
  | _ => cases h2 <;> exact False.elim r
def intD (C : Int → Int → Prop) (f : Int → Int → D) : D → D → (D → Prop) → Prop
  | .int i, .int j, k => C i j ∧ k (f i j)
  | _, _, _ => False
theorem opd_int {C : Int → Int → Prop} {gv : Int → Int → V} {f : Int → Int → D} (hf : ∀ Av H i j, Den Av H (gv i j) (f i j)) : OpD (rI C gv) (intD C f) := by
  intro Av H x y d1 d2 k Q hl h1 h2 r kk
  cases h1 with
  | int i =>
    cases h2 with
    | int j => exact ⟨i, j, rfl, rfl, r.1, kk _ _ H r.2 Grow.refl (hf _ _ i j)⟩
    | _ => exact False.elim r
  | _ => cases h2 <;> exact False.elim r
def intD0 (f : Int → Int → D) : D → D → (D → Prop) → Prop
  | .int i, .int j, k => k (f i j)
  | _, _, _ => False
theorem opd_int0 {gv : Int → Int → V} {f : Int → Int → D} (hf : ∀ Av H i j, Den Av H (gv i j) (f i j)) : OpD (rI0 gv) (intD0 f) := by
  intro Av H x y d1 d2 k Q hl h1 h2 r kk
  cases h1 with
  | int i =>
    cases h2 with
    | int j => exact ⟨i, j, rfl, rfl, kk _ _ H r Grow.refl (hf _ _ i j)⟩
    | _ => exact False.elim r
  | _ => cases h2 <;> exact False.elim r
abbrev subD := intD0 fun i j => .int (i - j)
abbrev mulD := intD CMulW fun i j => .int (i * j)
abbrev fdivD := intD CDivW fun i j => .int (i / j)
abbrev modD := intD (fun _ j => 0 < j) fun i j => .int (i % j)
def CPowG (i j : Int) : Prop := 0 ≤ j ∧ (Builtin.Int.intBits i : Int) * j ≤ 2 ^ 27
theorem op_powG : OpR X (binaryOp .Pow) (rI CPowG fun i j => .int (i ^ j.toNat)) := opI fun _ _ _ _ _ _ _ hc q => PyProof.Rows.pow_int hc.1 hc.2 q
abbrev powD := intD CPowG fun i j => .int (i ^ j.toNat)
abbrev ltD := intD0 fun i j => .bl (decide (i < j))
abbrev leD := intD0 fun i j => .bl (decide (i ≤ j))
abbrev gtD := intD0 fun i j => .bl (decide (j < i))
abbrev geD := intD0 fun i j => .bl (decide (j ≤ i))
section
variable {wa wb : AE}
theorem a_add (ha : PE X a (liftE c Wx wa)) (hb : PE X b (liftE c Wx wb)) : PE X (.BinOp a .Add b pos) (liftE c Wx (wOp addD wa wb)) := a_op op_addA opd_add ha hb
theorem a_cat (ha : PE X a (liftE c Wx wa)) (hb : PE X b (liftE c Wx wb)) : PE X (.BinOp a .Add b pos) (liftF c Wx (wOpF catD wa wb)) := a_opF op_cat opf_cat ha hb
theorem a_sub (ha : PE X a (liftE c Wx wa)) (hb : PE X b (liftE c Wx wb)) : PE X (.BinOp a .Sub b pos) (liftE c Wx (wOp subD wa wb)) := a_op op_sub (opd_int0 fun _ _ _ _ => .int _) ha hb
theorem a_mul (ha : PE X a (liftE c Wx wa)) (hb : PE X b (liftE c Wx wb)) : PE X (.BinOp a .Mult b pos) (liftE c Wx (wOp mulD wa wb)) := a_op op_mulW (opd_int fun _ _ _ _ => .int _) ha hb
theorem a_fdiv (ha : PE X a (liftE c Wx wa)) (hb : PE X b (liftE c Wx wb)) : PE X (.BinOp a .FloorDiv b pos) (liftE c Wx (wOp fdivD wa wb)) := a_op op_fdivW (opd_int fun _ _ _ _ => .int _) ha hb
theorem a_mod (ha : PE X a (liftE c Wx wa)) (hb : PE X b (liftE c Wx wb)) : PE X (.BinOp a .Mod b pos) (liftE c Wx (wOp modD wa wb)) := a_op op_mod (opd_int fun _ _ _ _ => .int _) ha hb
theorem a_pow (ha : PE X a (liftE c Wx wa)) (hb : PE X b (liftE c Wx wb)) : PE X (.BinOp a .Pow b pos) (liftE c Wx (wOp powD wa wb)) := a_op op_powG (opd_int fun _ _ _ _ => .int _) ha hb
theorem a_lt (ha : PE X a (liftE c Wx wa)) (hb : PE X b (liftE c Wx wb)) : PE X (.Compare a [.Lt] [b] pos) (liftE c Wx (wOp ltD wa wb)) := a_cmp op_lt (opd_int0 fun _ _ _ _ => .bl _) ha hb (nomark _)
theorem a_le (ha : PE X a (liftE c Wx wa)) (hb : PE X b (liftE c Wx wb)) : PE X (.Compare a [.LtE] [b] pos) (liftE c Wx (wOp leD wa wb)) := a_cmp op_le (opd_int0 fun _ _ _ _ => .bl _) ha hb (nomark _)
theorem a_gt (ha : PE X a (liftE c Wx wa)) (hb : PE X b (liftE c Wx wb)) : PE X (.Compare a [.Gt] [b] pos) (liftE c Wx (wOp gtD wa wb)) := a_cmp op_gt (opd_int0 fun _ _ _ _ => .bl _) ha hb (nomark _)
theorem a_ge (ha : PE X a (liftE c Wx wa)) (hb : PE X b (liftE c Wx wb)) : PE X (.Compare a [.GtE] [b] pos) (liftE c Wx (wOp geD wa wb)) := a_cmp op_ge (opd_int0 fun _ _ _ _ => .bl _) ha hb (nomark _)
theorem t_lt (ha : PE X a (liftE c Wx wa)) (hb : PE X b (liftE c Wx wb)) : PT X (.Compare a [.Lt] [b] pos) (liftT c Wx (wB (wOp ltD wa wb))) := t_cmp op_lt (opd_int0 fun _ _ _ _ => .bl _) ha hb (nomark _)
theorem t_le (ha : PE X a (liftE c Wx wa)) (hb : PE X b (liftE c Wx wb)) : PT X (.Compare a [.LtE] [b] pos) (liftT c Wx (wB (wOp leD wa wb))) := t_cmp op_le (opd_int0 fun _ _ _ _ => .bl _) ha hb (nomark _)
theorem t_gt (ha : PE X a (liftE c Wx wa)) (hb : PE X b (liftE c Wx wb)) : PT X (.Compare a [.Gt] [b] pos) (liftT c Wx (wB (wOp gtD wa wb))) := t_cmp op_gt (opd_int0 fun _ _ _ _ => .bl _) ha hb (nomark _)
theorem t_ge (ha : PE X a (liftE c Wx wa)) (hb : PE X b (liftE c Wx wb)) : PT X (.Compare a [.GtE] [b] pos) (liftT c Wx (wB (wOp geD wa wb))) := t_cmp op_ge (opd_int0 fun _ _ _ _ => .bl _) ha hb (nomark _)

/-! ### and, or, not, a if t else b -/
def wAnd (t u : AT) (env : Env) (Q : Bool → Env → Prop) (X : AX) : Prop := t env (fun b env1 => if b = true then u env1 Q X else Q false env1) X
def wOr (t u : AT) (env : Env) (Q : Bool → Env → Prop) (X : AX) : Prop := t env (fun b env1 => if b = true then Q true env1 else u env1 Q X) X
def wNot (t : AT) (env : Env) (Q : Bool → Env → Prop) (X : AX) : Prop := t env (fun b env1 => Q (!b) env1) X
def wAndV (wa wb : AE) (env : Env) (Q : D → Env → Prop) (X : AX) : Prop := wa env (fun x env1 => ∃ b, x = .bl b ∧ if b = true then wb env1 Q X else Q (.bl false) env1) X
def wOrV (wa wb : AE) (env : Env) (Q : D → Env → Prop) (X : AX) : Prop := wa env (fun x env1 => ∃ b, x = .bl b ∧ if b = true then Q (.bl true) env1 else wb env1 Q X) X
def wNotV (wa : AE) (env : Env) (Q : D → Env → Prop) (X : AX) : Prop := wa env (fun x env1 => ∃ b, x = .bl b ∧ Q (.bl (!b)) env1) X
def wIfE (t : AT) (wa wb : AE) (env : Env) (Q : D → Env → Prop) (X : AX) : Prop := t env (fun b env1 => if b = true then wa env1 Q X else wb env1 Q X) X
variable {t u : AT} {rest : List Expr}
theorem and_lift : ∀ σ H Q, liftT c Wx (wAnd t u) σ H Q → tAnd (liftT c Wx t) (liftT c Wx u) σ H Q := fun σ H Q ⟨Av, env, Qa, Xa, g, q, k, x⟩ =>
  ⟨Av, env, _, Xa, g, q, fun b env1 Av1 H1 q1 g1 m1 => by
    cases b with
    | true => exact ⟨Av1, env1, Qa, Xa, g1, q1, fun b env2 Av2 H2 q2 g2 m2 => k b env2 Av2 H2 q2 g2 (m1.trans m2), x.mono m1⟩
    | false => exact k false env1 Av1 H1 q1 g1 m1, x⟩
theorem or_lift : ∀ σ H Q, liftT c Wx (wOr t u) σ H Q → tOr (liftT c Wx t) (liftT c Wx u) σ H Q := fun σ H Q ⟨Av, env, Qa, Xa, g, q, k, x⟩ =>
  ⟨Av, env, _, Xa, g, q, fun b env1 Av1 H1 q1 g1 m1 => by
    cases b with
    | false => exact ⟨Av1, env1, Qa, Xa, g1, q1, fun b env2 Av2 H2 q2 g2 m2 => k b env2 Av2 H2 q2 g2 (m1.trans m2), x.mono m1⟩
    | true => exact k true env1 Av1 H1 q1 g1 m1, x⟩
theorem PW.imp {t t' : TT} (h : ∀ σ H Q, t' σ H Q → t σ H Q) (p : PW X e t) : PW X e t' := ⟨fun w pins s σ H Q I q => p.run w pins s σ H Q I (h σ H Q q)⟩
theorem w_and1 (ha : PT X a (liftT c Wx t)) : PW X (.BoolOp .And [a] pos) (liftT c Wx t) := pw_and1 ha
theorem w_or1 (ha : PT X a (liftT c Wx t)) : PW X (.BoolOp .Or [a] pos) (liftT c Wx t) := pw_or1 ha
theorem w_and (ha : PT X a (liftT c Wx t)) (hb : PW X (.BoolOp .And (b :: rest) pos) (liftT c Wx u)) : PW X (.BoolOp .And (a :: b :: rest) pos) (liftT c Wx (wAnd t u)) := PW.imp and_lift (pw_and ha hb)
theorem w_or (ha : PT X a (liftT c Wx t)) (hb : PW X (.BoolOp .Or (b :: rest) pos) (liftT c Wx u)) : PW X (.BoolOp .Or (a :: b :: rest) pos) (liftT c Wx (wOr t u)) := PW.imp or_lift (pw_or ha hb)
theorem t_not (ha : PT X a (liftT c Wx t)) : PT X (.UnaryOp .Not a pos) (liftT c Wx (wNot t)) := PT.imp (fun σ H Q ⟨Av, env, Qa, Xa, g, q, k, x⟩ => ⟨Av, env, _, Xa, g, q, fun b env1 Av1 H1 q1 g1 m1 => k (!b) env1 Av1 H1 q1 g1 m1, x⟩) (pt_not ha)
theorem t_w (h : PW X e (liftT c Wx t)) : PT X e (liftT c Wx t) := h.pt
theorem a_one {op} {wa : AE} (h : PE X a (liftE c Wx wa)) : PE X (.BoolOp op [a] pos) (liftE c Wx wa) := pe_one h
theorem a_and (ha : PE X a (liftE c Wx wa)) (hb : PE X (.BoolOp .And (b :: rest) pos) (liftE c Wx wb)) : PE X (.BoolOp .And (a :: b :: rest) pos) (liftE c Wx (wAndV wa wb)) := PE.imp (fun σ H Q ⟨Av, env, Qa, Xa, g, q, k, x⟩ =>
  ⟨Av, env, _, Xa, g, q, fun d env1 v Av1 H1 q1 g1 m1 d1 => by
    obtain ⟨b, rfl, q1⟩ := q1
    cases d1
    refine ⟨b, rfl, ?_⟩
    cases b with
    | true => exact ⟨Av1, env1, Qa, Xa, g1, q1, fun d env2 v Av2 H2 q2 g2 m2 d2 => k d env2 v Av2 H2 q2 g2 (m1.trans m2) d2, x.mono m1⟩
    | false => exact k _ env1 _ Av1 H1 q1 g1 m1 (.bl false), x⟩) (pe_and ha hb)
theorem a_or (ha : PE X a (liftE c Wx wa)) (hb : PE X (.BoolOp .Or (b :: rest) pos) (liftE c Wx wb)) : PE X (.BoolOp .Or (a :: b :: rest) pos) (liftE c Wx (wOrV wa wb)) := PE.imp (fun σ H Q ⟨Av, env, Qa, Xa, g, q, k, x⟩ =>
  ⟨Av, env, _, Xa, g, q, fun d env1 v Av1 H1 q1 g1 m1 d1 => by
    obtain ⟨b, rfl, q1⟩ := q1
    cases d1
    refine ⟨b, rfl, ?_⟩
    cases b with
    | false => exact ⟨Av1, env1, Qa, Xa, g1, q1, fun d env2 v Av2 H2 q2 g2 m2 d2 => k d env2 v Av2 H2 q2 g2 (m1.trans m2) d2, x.mono m1⟩
    | true => exact k _ env1 _ Av1 H1 q1 g1 m1 (.bl true), x⟩) (pe_or ha hb)
theorem a_not (ha : PE X a (liftE c Wx wa)) : PE X (.UnaryOp .Not a pos) (liftE c Wx (wNotV wa)) := PE.imp (fun σ H Q ⟨Av, env, Qa, Xa, g, q, k, x⟩ =>
  ⟨Av, env, _, Xa, g, q, fun d env1 v Av1 H1 q1 g1 m1 d1 => by
    obtain ⟨b, rfl, q1⟩ := q1
    cases d1
    exact ⟨b, rfl, k _ env1 _ Av1 H1 q1 g1 m1 (.bl _)⟩, x⟩) (pe_not ha)
theorem a_if {ce : Expr} (hc : PT X ce (liftT c Wx t)) (ha : PE X a (liftE c Wx wa)) (hb : PE X b (liftE c Wx wb)) : PE X (.IfExp ce a b pos) (liftE c Wx (wIfE t wa wb)) := PE.imp (fun σ H Q ⟨Av, env, Qa, Xa, g, q, k, x⟩ =>
  ⟨Av, env, _, Xa, g, q, fun b env1 Av1 H1 q1 g1 m1 => by
    cases b with
    | true => exact ⟨Av1, env1, Qa, Xa, g1, q1, fun d env2 v Av2 H2 q2 g2 m2 d2 => k d env2 v Av2 H2 q2 g2 (m1.trans m2) d2, x.mono m1⟩
    | false => exact ⟨Av1, env1, Qa, Xa, g1, q1, fun d env2 v Av2 H2 q2 g2 m2 d2 => k d env2 v Av2 H2 q2 g2 (m1.trans m2) d2, x.mono m1⟩, x⟩) (pe_ifExp hc ha hb)
end
end
end DL
set_option Elab.async false
set_option linter.all false
set_option maxRecDepth 100000
set_option maxHeartbeats 4000000
namespace DL
open PySem L2
abbrev W0 : WX := fun _ _ _ _ => False
abbrev X0 : AX := fun _ _ _ => False

/-! ### comprehensions -/
def wipeE (env : Env) : List Nat → Env
  | [] => env
  | v :: vs => (wipeE env vs).set v .un
/-- the block's own names as they stood ahead of it -/
def restE (env0 : Env) (env : Env) : List Nat → Env
  | [] => env
  | v :: vs => (restE env0 env vs).set v (env0.getD v .un)
def plainAt (env : Env) (v : Nat) : Bool := match env.getD v .un with
  | .un => true
  | .val _ => true
  | _ => false
def wLc (wi : AI) (g : AG) (t : AT) (w : AE) (vs : List Nat) (env : Env) (Q : List D → Env → Prop) (X : AX) : Prop := wi env (fun ds env1 => vs.all (plainAt env1) = true ∧ ∃ Inv : Nat → List D → Env → Prop, Inv 0 [] (wipeE env1 vs) ∧
  (∀ (i : Nat) d acc env', ds[i]? = some d → Inv i acc env' → g d env' fun env2 => t env2 (fun b env3 => if b = true then w env3 (fun y env4 => acc.length < sizeLine ∧ Inv (i + 1) (acc ++ [y]) (wipeE env4 vs)) X0 else Inv (i + 1) acc (wipeE env3 vs)) X0) ∧
  ∀ acc env', Inv ds.length acc env' → Q acc (restE env1 env' vs)) X
/-- a target that stores the block's own names -/
def GOkV (c : Cn) (g : TG) (w : AG) (vs : List Nat) : Prop := ∀ Av σ₀ H env v d Qe Q, Good c Av (wipe σ₀ vs) H env → Den Av H v d → w d env Qe → (∀ env' Av' σ' H', wipe σ' vs = wipe σ₀ vs → Qe env' → Good c Av' σ' H' env' → Mono Av H Av' H' → Q σ' H') → g v (wipe σ₀ vs) H Q
section
variable {c : Cn} {Av Av' : AvS} {σ : L2.St} {H H' : Hp} {env env' : Env}
theorem wipeE_len : ∀ vs : List Nat, (wipeE env vs).length = env.length
  | [] => rfl
  | v :: vs => by rw [wipeE, List.length_set, wipeE_len vs]
theorem Good.unAt (g : Good c Av σ H env) (v : Nat) (o : Option V) : Good c Av (σ.set v o) H (env.set v .un) where
  len := by rw [List.length_set, List.length_set, g.len]
  ok := fun j s o' e1 e2 => by
    rw [List.getElem?_set] at e1 e2
    by_cases h : v = j
    · subst h
      rw [if_pos rfl] at e1
      split at e1
      · cases e1; trivial
      · cases e1
    · rw [if_neg h] at e1 e2
      exact g.ok j s o' e1 e2
  sep := fun j k s t o p a hjk e1 e2 e3 e4 h1 => by
    rw [List.getElem?_set] at e1 e2 e3 e4
    by_cases h : v = j
    · subst h
      rw [if_pos rfl] at e1
      split at e1
      · cases e1
        cases o with
        | none => cases h1
        | some w => cases w <;> cases h1
      · cases e1
    · rw [if_neg h] at e1 e3
      by_cases h' : v = k
      · subst h'
        rw [if_pos rfl] at e2
        split at e2
        · cases e2
          cases p with
          | none => exact fun z => nomatch z
          | some w => cases w <;> exact fun z => nomatch z
        · cases e2
      · rw [if_neg h'] at e2 e4
        exact g.sep j k s t o p a hjk e1 e2 e3 e4 h1
  lo := g.lo
  live := g.live
  fr := g.fr
  pl := g.pl
theorem Good.wipe (g : Good c Av σ H env) : ∀ vs : List Nat, Good c Av (L2.wipe σ vs) H (wipeE env vs)
  | [] => g
  | v :: vs => (Good.wipe g vs).unAt v none
/-- the block's names again as they stood -/
theorem Good.rest {σ₀ : L2.St} {env₀ : Env} {Av₀ : AvS} {H₀ : Hp} (g0 : Good c Av₀ σ₀ H₀ env₀) (m : Mono Av₀ H₀ Av H) : ∀ {vs : List Nat}, vs.all (plainAt env₀) = true → Good c Av (L2.wipe σ₀ vs) H env → Good c Av σ₀ H (restE env₀ env vs) := by
  intro vs hv g
  have key : ∀ (ws : List Nat), (∀ w ∈ ws, plainAt env₀ w = true) → ∀ (i : Nat) s o, (restE env₀ env ws)[i]? = some s → σ₀[i]? = some o → (i ∈ ws ∧ SlOk c Av H o s ∧ ownA o s = none) ∨ (i ∉ ws ∧ env[i]? = some s) := by
    intro ws
    induction ws with
    | nil => intro _ i s o e1 e2; exact .inr ⟨List.not_mem_nil, e1⟩
    | cons w ws ih =>
      intro hw i s o e1 e2
      rw [restE, List.getElem?_set] at e1
      by_cases h : w = i
      · subst h
        rw [if_pos rfl] at e1
        split at e1
        · cases e1
          refine .inl ⟨List.mem_cons_self, ?_⟩
          have hi : w < env₀.length := by rw [g0.len]; exact (List.getElem?_eq_some_iff.mp e2).1
          have e3 : env₀[w]? = some (env₀.getD w .un) := by simp [List.getD, hi]
          have k := g0.ok w _ o e3 e2
          have hp := hw w List.mem_cons_self
          unfold plainAt at hp
          cases q : env₀.getD w .un with
          | un =>
            refine ⟨trivial, ?_⟩
            cases o with
            | none => rfl
            | some z => cases z <;> rfl
          | val d =>
            rw [q] at k
            obtain ⟨v, rfl, dv⟩ := k
            refine ⟨⟨v, rfl, dv.mono m⟩, ?_⟩
            cases v <;> rfl
          | own ds => rw [q] at hp; cases hp
          | bor a ds => rw [q] at hp; cases hp
        · cases e1
      · rw [if_neg h] at e1
        rcases ih (fun x hx => hw x (List.mem_cons_of_mem _ hx)) i s o e1 e2 with ⟨h1, h2⟩ | ⟨h1, h2⟩
        · exact .inl ⟨List.mem_cons_of_mem _ h1, h2⟩
        · exact .inr ⟨fun z => (List.mem_cons.mp z).elim (fun z => h z.symm) h1, h2⟩
  have wp : ∀ (ws : List Nat) (i : Nat), i ∉ ws → (L2.wipe σ₀ ws)[i]? = σ₀[i]? := fun ws i hi => wipe_out hi
  have kk := key vs (fun w hw => List.all_eq_true.mp hv w hw)
  have rl : (restE env₀ env vs).length = env.length := by
    have : ∀ ws : List Nat, (restE env₀ env ws).length = env.length := by
      intro ws
      induction ws with
      | nil => rfl
      | cons w ws ih => rw [restE, List.length_set, ih]
    exact this vs
  constructor
  · rw [rl, g.len, wipe_length]
  · intro i s o e1 e2
    rcases kk i s o e1 e2 with ⟨_, h, _⟩ | ⟨h1, h2⟩
    · exact h
    · exact g.ok i s o h2 (by rw [wp vs i h1]; exact e2)
  · intro i j s t o p a hij e1 e2 e3 e4 h1 h2
    rcases kk i s o e1 e3 with ⟨_, _, h⟩ | ⟨h3, h4⟩
    · rw [h] at h1; cases h1
    · rcases kk j t p e2 e4 with ⟨_, _, h⟩ | ⟨h5, h6⟩
      · rw [h] at h2; cases h2
      · exact g.sep i j s t o p a hij h4 h6 (by rw [wp vs i h3]; exact e3) (by rw [wp vs j h5]; exact e4) h1 h2
  · exact g.lo
  · exact g.live
  · exact g.fr
  · exact g.pl
end
section
variable {X : Cx} {c : Cn} {Wx : WX} {e a b : Expr} {es : List Expr} {pos p : Pos}
def liftEA (w : AE) : TE := fun σ H Q => ∃ c', liftE c' W0 w σ H Q
def liftTA (w : AT) : TT := fun σ H Q => ∃ c', liftT c' W0 w σ H Q
theorem PE.allC {w : AE} (h : ∀ c', PE X e (liftE c' W0 w)) : PE X e (liftEA w) := ⟨fun pins s σ H Q I ⟨c', q⟩ => (h c').run pins s σ H Q I q⟩
theorem PTs.allC {ifs : List Expr} {w : AT} (h : ∀ c', PTs X ifs (liftT c' W0 w)) : PTs X ifs (liftTA w) := ⟨fun pins s σ H Q I ⟨c', q⟩ => (h c').run pins s σ H Q I q⟩
theorem PTs.imp {ifs : List Expr} {t t' : TT} (h : ∀ σ H Q, t' σ H Q → t σ H Q) (p : PTs X ifs t) : PTs X ifs t' := ⟨fun pins s σ H Q I q => p.run pins s σ H Q I (h σ H Q q)⟩
def wYes (env : Env) (Q : Bool → Env → Prop) (_ : AX) : Prop := Q true env
theorem ts_nil : PTs X [] (liftT c Wx wYes) := PTs.imp (fun σ H Q ⟨Av, env, Qa, Xa, g, q, k, x⟩ => k true env Av H q g Mono.refl) pts_nil
theorem ts_one {t : AT} (h : PT X e (liftT c Wx t)) : PTs X [e] (liftT c Wx t) := pts_one h
theorem ex0 {Av : AvS} {H : Hp} : ExOk c W0 Av H X0 := fun _ _ _ _ _ _ _ _ z => z.elim
theorem lc_lift {wi : AI} {g : TG} {wg : AG} {t : AT} {w : AE} {vs : List Nat} (hg : ∀ c', GOkV c' g wg vs) : ∀ σ H Q, liftF c Wx (wLc wi wg t w vs) σ H Q → tLc (liftI c Wx wi) g (liftTA t) (liftEA w) vs σ H Q := by
  intro σ H Q ⟨Av, env, Qa, Xa, gd, q, k, x⟩
  refine ⟨Av, env, _, Xa, gd, q, fun ds env1 Av1 H1 J q1 g1 m1 it D hD => ?_, x⟩
  obtain ⟨pl, Inv, i0, is, id⟩ := q1
  have f1 := (g1.wipe vs).fresh hD (vs := []) (ds := []) .nil
  -- the state between two turns
  refine ⟨fun i m H' => m = ds.length - i ∧ i ≤ ds.length ∧ ∃ acc env' Av', Inv i acc env' ∧ Fresh c Av' (L2.wipe σ vs) H' env' D acc ∧ Mono (add Av1 D) (L2.upd H1 D (.lst [])) Av' H', ⟨_, rfl, Nat.zero_le _, [], wipeE env1 vs, add Av1 D, i0, f1, Mono.refl⟩, ?_⟩
  rintro i m H' ⟨rfl, hi, acc, env', Av', iv, f, m'⟩
  have m0 : Mono Av1 H1 Av' H' := (Mono.addNew hD).trans m'
  by_cases hlt : i < ds.length
  · obtain ⟨j1, j2⟩ := it.go i ds[i] Av' H' (List.getElem?_eq_getElem hlt) f.g.live m0
    refine .inr ⟨j1, fun H'' => i + 1 ≤ ds.length ∧ ∃ acc env' Av', Inv (i + 1) acc env' ∧ Fresh c Av' (L2.wipe σ vs) H'' env' D acc ∧ Mono (add Av1 D) (L2.upd H1 D (.lst [])) Av' H'', fun H'' ⟨h1, h2⟩ => ⟨ds.length - (i + 1), by omega, rfl, h1, h2⟩, fun xv Hx y => ?_⟩
    obtain ⟨gr, dx⟩ := j2 xv Hx y
    obtain ⟨avs, ha, hda⟩ := f.at_
    -- the turn begins at Hx
    have fx : Fresh c Av' (L2.wipe σ vs) Hx env' D acc := ⟨f.g.grow gr, f.inn, f.no, f.n0, f.h0, avs, gr _ _ ha, hda.mono (Mono.grow gr)⟩
    have mx : Mono (add Av1 D) (L2.upd H1 D (.lst [])) Av' Hx := m'.trans (Mono.grow gr)
    have hx : Hx D = some (.lst avs) := gr _ _ ha
    have dax : Dens Av' Hx avs acc := hda.mono (Mono.grow gr)
    refine hg (blkCn c D (L2.wipe σ vs) Hx env') Av' σ Hx env' xv ds[i] _ _ fx.hid.rebase dx (is i ds[i] acc env' (List.getElem?_eq_getElem hlt) iv) fun env2 Av2 σ2 H2 w2 q2 g2 m2 => ⟨w2, ?_⟩
    refine ⟨blkCn c D (L2.wipe σ vs) Hx env', Av2, env2, _, _, g2, q2, fun bb env3 Av3 H3 q3 g3 m3 => ?_, ex0⟩
    cases bb with
    | true =>
      refine ⟨blkCn c D (L2.wipe σ vs) Hx env', Av3, env3, _, _, g3, q3, fun y env4 vy Av4 H4 q4 g4 m4 dy => ?_, ex0⟩
      obtain ⟨hz, iv'⟩ := q4
      have mm : Mono Av' Hx Av4 H4 := (m2.trans m3).trans m4
      obtain ⟨u1, u2, u3, u4⟩ := fx.hid.unbase hx g4 mm
      have u5 : Good c Av4 (L2.wipe σ vs) H4 (wipeE env4 vs) := by
        rw [← w2]; exact u1.wipe vs
      have nd : ∀ (j : Nat) s o, (wipeE env4 vs)[j]? = some s → (L2.wipe σ vs)[j]? = some o → ownA o s ≠ some D := by
        have : ∀ (ws : List Nat) (j : Nat) s o, (wipeE env4 ws)[j]? = some s → (L2.wipe σ2 ws)[j]? = some o → ownA o s ≠ some D := by
          intro ws
          induction ws with
          | nil => exact u2
          | cons v ws ih =>
            intro j s o e1 e2
            rw [wipeE, List.getElem?_set] at e1
            rw [L2.wipe, List.getElem?_set] at e2
            by_cases h : v = j
            · subst h
              rw [if_pos rfl] at e1
              split at e1
              · cases e1
                cases o with
                | none => exact fun z => nomatch z
                | some z => cases z <;> exact fun z => nomatch z
              · cases e1
            · rw [if_neg h] at e1 e2
              exact ih j s o e1 e2
        intro j s o e1 e2
        rw [← w2] at e2
        exact this vs j s o e1 e2
      refine ⟨avs, u4, by rw [dax.length]; exact hz, hlt, acc ++ [y], wipeE env4 vs, Av4, iv', ?_, ?_⟩
      · have mu : Mono Av4 H4 Av4 (L2.upd H4 D (.lst (avs ++ [vy]))) := Mono.upd u3
        refine ⟨⟨u5.len, fun j s o e1 e2 => (u5.ok j s o e1 e2).other u3 (nd j s o e1 e2) (fun b o hb e => by rw [upd_ne hb]; exact e), u5.sep, u5.lo, fun b hb => ?_, fun b o np e => ?_, fun b hb => ?_⟩, u3, nd, fx.n0, fx.h0, _, upd_same, ((dax.mono mm).append (.cons dy .nil)).mono mu⟩
        · by_cases h : b = D
          · exact ⟨_, by rw [h]; exact upd_same⟩
          · obtain ⟨o, eo⟩ := u5.live b hb
            exact ⟨o, by rw [upd_ne h]; exact eo⟩
        · have hb : b ≠ D := fun z => by rw [z, fx.h0] at e; cases e
          rw [upd_ne hb]
          exact u5.fr b o np e
        · by_cases h : b = D
          · exact ⟨_, by rw [h]; exact upd_same⟩
          · obtain ⟨o, eo⟩ := u5.pl b hb
            exact ⟨o, by rw [upd_ne h]; exact eo⟩
      · exact (mx.trans mm).trans (Mono.upd u3)
    | false =>
      have mm : Mono Av' Hx Av3 H3 := m2.trans m3
      obtain ⟨u1, u2, u3, u4⟩ := fx.hid.unbase hx g3 mm
      have u5 : Good c Av3 (L2.wipe σ vs) H3 (wipeE env3 vs) := by
        rw [← w2]; exact u1.wipe vs
      have nd : ∀ (j : Nat) s o, (wipeE env3 vs)[j]? = some s → (L2.wipe σ vs)[j]? = some o → ownA o s ≠ some D := by
        have : ∀ (ws : List Nat) (j : Nat) s o, (wipeE env3 ws)[j]? = some s → (L2.wipe σ2 ws)[j]? = some o → ownA o s ≠ some D := by
          intro ws
          induction ws with
          | nil => exact u2
          | cons v ws ih =>
            intro j s o e1 e2
            rw [wipeE, List.getElem?_set] at e1
            rw [L2.wipe, List.getElem?_set] at e2
            by_cases h : v = j
            · subst h
              rw [if_pos rfl] at e1
              split at e1
              · cases e1
                cases o with
                | none => exact fun z => nomatch z
                | some z => cases z <;> exact fun z => nomatch z
              · cases e1
            · rw [if_neg h] at e1 e2
              exact ih j s o e1 e2
        intro j s o e1 e2
        rw [← w2] at e2
        exact this vs j s o e1 e2
      exact ⟨hlt, acc, wipeE env3 vs, Av3, q3, ⟨u5, u3, nd, fx.n0, fx.h0, avs, u4, dax.mono mm⟩, mx.trans mm⟩
  · have e : i = ds.length := by omega
    subst e
    refine .inl ⟨it.stop Av' H' m0, k acc _ D Av' H' (id acc env' iv) ?_ (m1.trans m0)⟩
    have gg := g1.rest m0 pl f.g
    refine ⟨gg, f.inn, ?_, f.n0, f.h0, f.at_⟩
    intro j s o e1 e2 zz
    -- the names that were wiped own nothing; the others are f's
    have : ∀ (ws : List Nat), (∀ w ∈ ws, plainAt env1 w = true) → (restE env1 env' ws)[j]? = some s → (j ∈ ws ∧ ownA o s = none) ∨ (j ∉ ws ∧ env'[j]? = some s) := by
      intro ws
      induction ws with
      | nil => intro _ e; exact .inr ⟨List.not_mem_nil, e⟩
      | cons v ws ih =>
        intro hw e
        rw [restE, List.getElem?_set] at e
        by_cases h : v = j
        · subst h
          rw [if_pos rfl] at e
          split at e
          · cases e
            refine .inl ⟨List.mem_cons_self, ?_⟩
            have hp := hw v List.mem_cons_self
            unfold plainAt at hp
            cases q : env1.getD v .un with
            | un => cases o with
              | none => rfl
              | some w' => cases w' <;> rfl
            | val d => cases o with
              | none => rfl
              | some w' => cases w' <;> rfl
            | own ds => rw [q] at hp; cases hp
            | bor a ds => rw [q] at hp; cases hp
          · cases e
        · rw [if_neg h] at e
          rcases ih (fun x hx => hw x (List.mem_cons_of_mem _ hx)) e with ⟨h1, h2⟩ | ⟨h1, h2⟩
          · exact .inl ⟨List.mem_cons_of_mem _ h1, h2⟩
          · exact .inr ⟨fun z => (List.mem_cons.mp z).elim (fun z => h z.symm) h1, h2⟩
    rcases this vs (fun w hw => List.all_eq_true.mp pl w hw) e1 with ⟨_, h⟩ | ⟨h1, h2⟩
    · rw [h] at zz; cases zz
    · exact f.no j s o h2 (by rw [wipe_out h1]; exact e2) zz
theorem a_lc {elt tg iter : Expr} {ifs : List Expr} {scope : Scope} {own : List (Str × Nat)} {wi : AI} {g : TG} {wg : AG} {t : AT} {w : AE} (hc : X.calm = true) (hN : X.N.Nodup) (hi : PI X tg iter (liftI c Wx wi)) (ok : BlkOk X.N X.env.scope scope own)
    (hg : ∀ (s : Shared) (H : Hp) (C : Addr) (cl : List (Str × Addr)) (fp : List Addr), PG (X.blk s H scope (PySem.compEnvC scope cl C X.env) fp) tg g) (hw : ∀ c', GOkV c' g wg (own.map (·.2)))
    (ht : ∀ (s : Shared) (H : Hp) (C : Addr) (cl : List (Str × Addr)) (fp : List Addr) c', PTs (X.blk s H scope (PySem.compEnvC scope cl C X.env) fp) ifs (liftT c' W0 t))
    (he : ∀ (s : Shared) (H : Hp) (C : Addr) (cl : List (Str × Addr)) (fp : List Addr) c', PE (X.blk s H scope (PySem.compEnvC scope cl C X.env) fp) elt (liftE c' W0 w)) (hs : ∀ x, foldedSetIterable iter X.env x = pure x := by intro _; rfl) :
    PE X (.ListComp elt [⟨tg, iter, ifs, 0⟩] scope pos) (liftF c Wx (wLc wi wg t w (own.map (·.2)))) :=
  PE.imp (lc_lift hw) (pe_lc hc hN hi ok hg (fun s H C cl fp => PTs.allC (ht s H C cl fp)) (fun s H C cl fp => PE.allC (he s H C cl fp)) hs)
end
end DL
set_option Elab.async false
set_option linter.all false
set_option maxRecDepth 100000
set_option maxHeartbeats 4000000
namespace DL
open PySem L2

/-! ### what can be shown, compared -/
def keyPy : Key → PyData
  | .inl i => .int i
  | .inr s => .str s
mutual
def D.py : D → Option PyData
  | .non => some .none
  | .bl b => some (.bool b)
  | .int i => some (.int i)
  | .str s => some (.str s)
  | .tup ds => (pys ds).map .tuple
  | .lst ds => (pys ds).map .list
  | .dic ks ds => if ks.length = ds.length then (pys ds).map fun ps => .dict ((ks.map keyPy).zip ps) else none
  | .ins _ _ _ => none
  | .err _ _ => none
  | .ty _ => none
  | .atm _ => none
  | .scr _ _ => none
def pys : List D → Option (List PyData)
  | [] => some []
  | d :: ds => match d.py, pys ds with
    | some p, some ps => some (p :: ps)
    | _, _ => none
end
theorem pys_len : ∀ {ds : List D} {ps : List PyData}, pys ds = some ps → ps.length = ds.length
  | [], ps, e => by simp [pys] at e; subst e; rfl
  | d :: ds, ps, e => by
    unfold pys at e
    split at e
    · rename_i p qs e1 e2
      cases e
      rw [List.length_cons, List.length_cons, pys_len e2]
    · cases e
section
variable {X : Cx} {pins : List (Addr × Obj)} {σ : L2.St} {H : Hp} {s : Shared} {Av : AvS}
theorem keys_reads {P : Program} {w : World} {h : Heap} : ∀ {es : List DictEntry} {vs : List (Key × Value)}, Pairs (mixKind P w) es vs → ReadsAll h (es.map (·.key)) (vs.map fun kv => keyPy kv.1) []
  | _, _, .nil => .nil
  | _, _, .cons (kv := kv) h1 h2 h3 => by
    have r := keys_reads (h := h) h3
    rcases keyIs_shape h1 with ⟨i, t, e1, e2⟩ | ⟨x, t, e1, e2⟩
    · rw [List.map_cons, List.map_cons, e2, e1]
      exact ReadsAll.cons (as := []) (Reads.int i t) r
    · rw [List.map_cons, List.map_cons, e2, e1]
      exact ReadsAll.cons (as := []) (Reads.str x t) r
theorem zip_fst {α β : Type} : ∀ {xs : List α} {ys : List β}, xs.length = ys.length → (xs.zip ys).map (·.1) = xs
  | [], _, _ => rfl
  | x :: xs, [], h => by simp at h
  | x :: xs, y :: ys, h => by rw [List.zip_cons_cons, List.map_cons, zip_fst (by simpa using h)]
theorem zip_snd {α β : Type} : ∀ {xs : List α} {ys : List β}, xs.length = ys.length → (xs.zip ys).map (·.2) = ys
  | [], [], _ => rfl
  | [], y :: ys, h => by simp at h
  | x :: xs, [], h => by simp at h
  | x :: xs, y :: ys, h => by rw [List.zip_cons_cons, List.map_cons, zip_snd (by simpa using h)]
theorem kv_vals {κ : Type} : ∀ {kvs : List (κ × V)} {vs : List (κ × Value)}, KV kvs vs → Vals (kvs.map (·.2)) (vs.map (·.2)) ∧ kvs.map (·.1) = vs.map (·.1)
  | _, _, .nil => ⟨.nil, rfl⟩
  | _, _, .cons h t => by
    obtain ⟨h1, h2⟩ := kv_vals t
    exact ⟨.cons h.2 h1, by rw [List.map_cons, List.map_cons, h2, h.1]⟩
theorem pairs_vals {P : Program} {w : World} : ∀ {es : List DictEntry} {vs : List (Key × Value)}, Pairs (mixKind P w) es vs → es.map (·.val) = vs.map (·.2)
  | _, _, .nil => rfl
  | _, _, .cons h1 h2 h3 => by rw [List.map_cons, List.map_cons, h2, pairs_vals h3]
mutual
theorem Den.reads (I : Inv X pins σ H s) (hS : ∀ a vs, H a = some (.lst vs) → a ≠ sysModules) : ∀ {v : V} {d : D}, Den Av H v d → ∀ {u : Value} {p : PyData}, d.py = some p → RelV v u → ∃ as, Reads s.heap u p as ∧ sysModules ∉ as
  | _, _, .non, u, p, e, r => by
    rw [D.py] at e; cases e
    cases r
    exact ⟨_, Reads.none, by simp⟩
  | _, _, .bl b, u, p, e, r => by
    rw [D.py] at e; cases e
    cases r
    exact ⟨_, Reads.bool b, by simp⟩
  | _, _, .int i, u, p, e, r => by
    rw [D.py] at e; cases e
    obtain ⟨t, rfl⟩ := r
    exact ⟨_, Reads.int i t, by simp⟩
  | _, _, .str x, u, p, e, r => by
    rw [D.py] at e; cases e
    obtain ⟨t, rfl⟩ := r
    exact ⟨_, Reads.str x t, by simp⟩
  | _, _, .tup (vs := vs) (ds := ds) h na q, u, p, e, r => by
    rw [D.py, Option.map_eq_some_iff] at e
    obtain ⟨ps, e1, rfl⟩ := e
    cases r
    obtain ⟨its, rv, ⟨o, ho, hc, n, hd⟩, _⟩ := I.tuple (.inl h)
    obtain ⟨as, h1, h2⟩ := Dens.reads I hS q e1 rv
    exact ⟨_, Reads.tuple ho hc hd h1, h2⟩
  | _, _, .lst (vs := vs) (ds := ds) h na q, u, p, e, r => by
    rw [D.py, Option.map_eq_some_iff] at e
    obtain ⟨ps, e1, rfl⟩ := e
    cases r
    obtain ⟨its, rv, ⟨o, n, ho, hc, _, hd⟩, _⟩ := I.list (.inl (.inl h))
    obtain ⟨as, h1, h2⟩ := Dens.reads I hS q e1 rv
    exact ⟨_, Reads.list ho hc hd h1, by simp only [List.mem_cons, not_or]; exact ⟨(hS _ _ h).symm, h2⟩⟩
  | _, _, .dic (kvs := kvs) (ds := ds) h na q, u, p, e, r => by
    rw [D.py] at e
    split at e
    · rename_i hl
      rw [Option.map_eq_some_iff] at e
      obtain ⟨ps, e1, rfl⟩ := e
      cases r
      obtain ⟨hz, hm, vs, kv, o, es, ep, ho, hx, hd, hk, hp, hn⟩ := dk_rd I.hok h
      obtain ⟨k1, k2⟩ := kv_vals kv
      obtain ⟨as, h1, h2⟩ := Dens.reads I hS q e1 k1
      have hl' : ((kvs.map (·.1)).map keyPy).length = ps.length := by rw [List.length_map, hl, pys_len e1]
      refine ⟨_, Reads.dict (as := []) (bs := as) ho hx.1 hd ?_ ?_, ?_⟩
      · rw [zip_fst hl', k2, List.map_map]
        exact keys_reads hp
      · rw [zip_snd hl', pairs_vals hp]
        exact h1
      · simp only [List.append_nil, List.cons_append, List.mem_cons, not_or, List.nil_append]
        exact ⟨fun z => (beq_eq_false_iff_ne.mp hm) z.symm, h2⟩
    · cases e
  | _, _, .ins _ _ _, u, p, e, r => by rw [D.py] at e; cases e
  | _, _, .err _ _ _ _ _, u, p, e, r => by rw [D.py] at e; cases e
  | _, _, .ty _, u, p, e, r => by rw [D.py] at e; cases e
  | _, _, .atm _, u, p, e, r => by rw [D.py] at e; cases e
  | _, _, .scr _ _, u, p, e, r => by rw [D.py] at e; cases e
  | _, _, .scrK _, u, p, e, r => by rw [D.py] at e; cases e
theorem Dens.reads (I : Inv X pins σ H s) (hS : ∀ a vs, H a = some (.lst vs) → a ≠ sysModules) : ∀ {vs : List V} {ds : List D}, Dens Av H vs ds → ∀ {us : List Value} {ps : List PyData}, pys ds = some ps → Vals vs us → ∃ as, ReadsAll s.heap us ps as ∧ sysModules ∉ as
  | _, _, .nil, us, ps, e, r => by
    rw [pys] at e; cases e
    cases r
    exact ⟨_, ReadsAll.nil, by simp⟩
  | _, _, .cons h t, us, ps, e, r => by
    rw [pys] at e
    split at e
    · rename_i p qs e1 e2
      cases e
      cases r with
      | cons r1 r2 =>
        obtain ⟨as, h1, h2⟩ := Den.reads I hS h e1 r1
        obtain ⟨bs, h3, h4⟩ := Dens.reads I hS t e2 r2
        exact ⟨_, ReadsAll.cons h1 h3, by rw [List.mem_append, not_or]; exact ⟨h2, h4⟩⟩
    · cases e
end
theorem SysB.ne (hS : SysB X.base) (I : Inv X pins σ H s) : ∀ a vs, H a = some (.lst vs) → a ≠ sysModules := fun a vs e z => by
  obtain ⟨o, ho⟩ := hS
  have h1 := (I.bs _ _ ho).2
  rw [z, h1] at e; cases e
end
/-! ### == and != -/
def eqD (neg : Bool) : D → D → (D → Prop) → Prop := fun x y k => ∃ p q, x.py = some p ∧ y.py = some q ∧ (SeqAt.shaped p && SeqAt.shaped q) = true ∧ k (.bl (if neg then !PyData.eqv p q else PyData.eqv p q))
section
variable {X : Cx} {c : Cn} {Wx : WX} {e a b : Expr} {es : List Expr} {pos p : Pos} {wa wb : AE}
/-- an operation whose rule asks for what the whole state says -/
def OpI (X : Cx) (f : Value → Value → Sem Value) (R : R2D) : Prop := ∀ (pins : List (Addr × Obj)) (s : Shared) (σ : L2.St) (H : Hp) (Av : AvS) (x y : V) (v u : Value) (d1 d2 : D) (k : D → Prop) (Q : VK), Inv X pins σ H s → Live Av H → RelV x v → RelV y u → Den Av H x d1 → Den Av H y d2 → R d1 d2 k →
  (∀ d v H', k d → Grow H H' → Den Av H' v d → Q v H') → wpAny (model X.prog X.w) X.A (f v u) (EP X pins σ Q) X.xe s
/-- as a rule by values: what the operands tell is said within -/
def rD (R : R2D) : R2 := fun x y H Q => ∃ Av d1 d2 k, Live Av H ∧ Den Av H x d1 ∧ Den Av H y d2 ∧ R d1 d2 k ∧ ∀ d v H', k d → Grow H H' → Den Av H' v d → Q v H'
theorem opr_of {f : Value → Value → Sem Value} {R : R2D} (h : OpI X f R) : OpR X f (rD R) := fun pins s σ H x y v u Q I rx ry ⟨Av, d1, d2, k, hl, h1, h2, r, kk⟩ => h pins s σ H Av x y v u d1 d2 k Q I hl rx ry h1 h2 r kk
theorem opd_rD {R : R2D} : OpD (rD R) R := fun Av H x y d1 d2 k Q hl h1 h2 r kk => ⟨Av, d1, d2, k, hl, h1, h2, r, kk⟩
theorem opi_eq (hS : SysB X.base) (hu : X.A.units + 64 < cLine) : OpI X (compareOp .Eq) (eqD false) := by
  intro pins s σ H Av x y v u d1 d2 k Q I hl rx ry h1 h2 ⟨p, q, e1, e2, e3, r⟩ kk
  obtain ⟨as, r1, _⟩ := h1.reads I (hS.ne I) e1 rx
  obtain ⟨bs, r2, _⟩ := h2.reads I (hS.ne I) e2 ry
  rw [Bool.and_eq_true] at e3
  exact SeqAt.compareEq_shaped r1 r2 e3.1 e3.2 hu ⟨.bl _, H, I, rfl, kk _ _ H r Grow.refl (.bl _)⟩
theorem opi_ne (hS : SysB X.base) (hu : X.A.units + 64 < cLine) : OpI X (compareOp .NotEq) (eqD true) := by
  intro pins s σ H Av x y v u d1 d2 k Q I hl rx ry h1 h2 ⟨p, q, e1, e2, e3, r⟩ kk
  obtain ⟨as, r1, _⟩ := h1.reads I (hS.ne I) e1 rx
  obtain ⟨bs, r2, _⟩ := h2.reads I (hS.ne I) e2 ry
  rw [Bool.and_eq_true] at e3
  exact SeqAt.compareNe_shaped r1 r2 e3.1 e3.2 hu ⟨.bl _, H, I, rfl, kk _ _ H r Grow.refl (.bl _)⟩
theorem a_eq (hS : SysB X.base) (hu : X.A.units + 64 < cLine) (ha : PE X a (liftE c Wx wa)) (hb : PE X b (liftE c Wx wb)) : PE X (.Compare a [.Eq] [b] pos) (liftE c Wx (wOp (eqD false) wa wb)) := a_cmp (opr_of (opi_eq hS hu)) opd_rD ha hb (nomark _)
theorem a_ne (hS : SysB X.base) (hu : X.A.units + 64 < cLine) (ha : PE X a (liftE c Wx wa)) (hb : PE X b (liftE c Wx wb)) : PE X (.Compare a [.NotEq] [b] pos) (liftE c Wx (wOp (eqD true) wa wb)) := a_cmp (opr_of (opi_ne hS hu)) opd_rD ha hb (nomark _)
theorem t_eq (hS : SysB X.base) (hu : X.A.units + 64 < cLine) (ha : PE X a (liftE c Wx wa)) (hb : PE X b (liftE c Wx wb)) : PT X (.Compare a [.Eq] [b] pos) (liftT c Wx (wB (wOp (eqD false) wa wb))) := t_cmp (opr_of (opi_eq hS hu)) opd_rD ha hb (nomark _)
theorem t_ne (hS : SysB X.base) (hu : X.A.units + 64 < cLine) (ha : PE X a (liftE c Wx wa)) (hb : PE X b (liftE c Wx wb)) : PT X (.Compare a [.NotEq] [b] pos) (liftT c Wx (wB (wOp (eqD true) wa wb))) := t_cmp (opr_of (opi_ne hS hu)) opd_rD ha hb (nomark _)
end
end DL
set_option Elab.async false
set_option linter.all false
set_option maxRecDepth 100000
set_option maxHeartbeats 4000000
namespace DL
open PySem L2
/-! ### calls of what is built in -/
abbrev RC := List D → (D → Prop) → Prop
abbrev RF := List D → (List D → Prop) → Prop
def CallI (X : Cx) (f : Value) (R : RC) : Prop := ∀ (pins : List (Addr × Obj)) (s : Shared) (σ : L2.St) (H : Hp) (Av : AvS) (xs : List V) (us : List Value) (ds : List D) (k : D → Prop) (Q : VK), Inv X pins σ H s → Live Av H → Vals xs us → Dens Av H xs ds → R ds k →
  (∀ d v H', k d → Grow H H' → Den Av H' v d → Q v H') → wpAny (model X.prog X.w) X.A (call f us) (EP X pins σ Q) X.xe s
def rC (R : RC) : List V → Hp → VK → Prop := fun xs H Q => ∃ Av ds k, Live Av H ∧ Dens Av H xs ds ∧ R ds k ∧ ∀ d v H', k d → Grow H H' → Den Av H' v d → Q v H'
def CallD (r : List V → Hp → VK → Prop) (R : RC) : Prop := ∀ Av H xs ds k Q, Live Av H → Dens Av H xs ds → R ds k → (∀ d v H', k d → Grow H H' → Den Av H' v d → Q v H') → r xs H Q
def CallF (r : List V → Hp → VK → Prop) (R : RF) : Prop := ∀ Av H xs ds k Q, Live Av H → Dens Av H xs ds → R ds k → (∀ es vs p, k es → H p = none → Dens Av H vs es → Q (.ref p) (L2.upd H p (.lst vs))) → r xs H Q
def wCB (R : RC) (w : AA) (env : Env) (Q : D → Env → Prop) (X : AX) : Prop := w env (fun as env' => agR as 0 = [] ∧ R (agDs as) fun d => Q d env') X
def wCBF (R : RF) (w : AA) (env : Env) (Q : List D → Env → Prop) (X : AX) : Prop := w env (fun as env' => agR as 0 = [] ∧ R (agDs as) fun ds => Q ds env') X
section
variable {X : Cx} {c : Cn} {Wx : WX} {e a b : Expr} {es : List Expr} {pos p : Pos} {f : Value} {R : RC} {RF' : RF} {r : List V → Hp → VK → Prop} {w : AA} {x : Str} {id T : String}
theorem callR_of (h : CallI X f R) : CallR X f (rC R) := fun pins s σ H xs us Q I rv ⟨Av, ds, k, hl, hd, hr, kk⟩ => h pins s σ H Av xs us ds k Q I hl rv hd hr kk
theorem callD_rC : CallD (rC R) R := fun Av H xs ds k Q hl hd hr kk => ⟨Av, ds, k, hl, hd, hr, kk⟩
theorem cb_lift (hr : CallD r R) : ∀ σ H Q, liftE c Wx (wCB R w) σ H Q → tCB r (liftA c Wx w) σ H Q := fun σ H Q ⟨Av, env, Qa, Xa, g, q, k, x⟩ =>
  ⟨Av, env, _, Xa, g, q, fun as env' vs Av' H' ⟨e1, q'⟩ g' m' d' => hr Av' H' vs (agDs as) _ Q g'.live (agR_none e1 d') q' fun d v H'' kd gr dv => k d env' v Av' H'' kd (g'.grow gr) (m'.trans (Mono.grow gr)) dv, x⟩
theorem cbf_lift (hr : CallF r RF') : ∀ σ H Q, liftF c Wx (wCBF RF' w) σ H Q → tCB r (liftA c Wx w) σ H Q := fun σ H Q ⟨Av, env, Qa, Xa, g, q, k, x⟩ =>
  ⟨Av, env, _, Xa, g, q, fun as env' vs Av' H' ⟨e1, q'⟩ g' m' d' => hr Av' H' vs (agDs as) _ Q g'.live (agR_none e1 d') q' fun ds vs' p kd hp dv => k ds env' p (add Av' p) _ kd (g'.fresh hp dv) (m'.trans (Mono.addNew hp)), x⟩
theorem a_cb (hc : CallR X (.builtin id) r) (hr : CallD r R) (hg : Gl X x) (hm : X.mg x = none) (hv : bootBuiltins x = some (.builtin id)) (ha : PA X (e :: es) (liftA c Wx w)) (hn : x ≠ "__name__" := by decide) (hdb : (x == ("__debug__" : Str)) = false := by decide)
    (he : starEach (e :: es) X.env = (false, eval e X.env) :: starEach es X.env := by rfl) (hpl : (backTo pos (starEach es X.env)).any (·.1) = false := by rfl) : PE X (.Call (.Name x p) (e :: es) [] pos) (liftE c Wx (wCB R w)) := PE.imp (cb_lift hr) (pe_callB hc hg hm hv ha hn hdb he hpl)
theorem a_cbF (hc : CallR X (.builtin id) r) (hr : CallF r RF') (hg : Gl X x) (hm : X.mg x = none) (hv : bootBuiltins x = some (.builtin id)) (ha : PA X (e :: es) (liftA c Wx w)) (hn : x ≠ "__name__" := by decide) (hdb : (x == ("__debug__" : Str)) = false := by decide)
    (he : starEach (e :: es) X.env = (false, eval e X.env) :: starEach es X.env := by rfl) (hpl : (backTo pos (starEach es X.env)).any (·.1) = false := by rfl) : PE X (.Call (.Name x p) (e :: es) [] pos) (liftF c Wx (wCBF RF' w)) := PE.imp (cbf_lift hr) (pe_callB hc hg hm hv ha hn hdb he hpl)
theorem a_ct (hc : CallR X (.type T) r) (hr : CallD r R) (hg : Gl X x) (hm : X.mg x = none) (hv : bootBuiltins x = some (.type T)) (ha : PA X (e :: es) (liftA c Wx w)) (hn : x ≠ "__name__" := by decide) (hdb : (x == ("__debug__" : Str)) = false := by decide)
    (he : starEach (e :: es) X.env = (false, eval e X.env) :: starEach es X.env := by rfl) (hpl : (backTo pos (starEach es X.env)).any (·.1) = false := by rfl) : PE X (.Call (.Name x p) (e :: es) [] pos) (liftE c Wx (wCB R w)) := PE.imp (cb_lift hr) (pe_callTy hc hg hm hv ha hn hdb he hpl)
theorem a_ctF (hc : CallR X (.type T) r) (hr : CallF r RF') (hg : Gl X x) (hm : X.mg x = none) (hv : bootBuiltins x = some (.type T)) (ha : PA X (e :: es) (liftA c Wx w)) (hn : x ≠ "__name__" := by decide) (hdb : (x == ("__debug__" : Str)) = false := by decide)
    (he : starEach (e :: es) X.env = (false, eval e X.env) :: starEach es X.env := by rfl) (hpl : (backTo pos (starEach es X.env)).any (·.1) = false := by rfl) : PE X (.Call (.Name x p) (e :: es) [] pos) (liftF c Wx (wCBF RF' w)) := PE.imp (cbf_lift hr) (pe_callTy hc hg hm hv ha hn hdb he hpl)
end
/-! len -/
def lenD (K : PySem.W.Frag) : RC := fun ds k => match ds with
  | [.lst xs] => k (.int xs.length)
  | [.tup xs] => k (.int xs.length)
  | [.scr K' ns] => K' = K ∧ k (.int ns.length)
  | [.str s] => s.length ≤ sizeLine ∧ k (.int s.length)
  | _ => False
theorem calld_len {K : PySem.W.Frag} : CallD (fun xs H Q => ∃ x n, xs = [x] ∧ LenV K x H n ∧ Q (.int n) H) (lenD K) := by
  intro Av H xs ds k Q hl hd hr kk
  cases hd with
  | nil => exact hr.elim
  | cons h t =>
    cases t with
    | cons => cases h <;> exact hr.elim
    | nil =>
      cases h with
      | lst h na q => exact ⟨_, _, rfl, .inl ⟨_, .inl (.inl h), rfl⟩, by rw [q.length]; exact kk _ _ H hr Grow.refl (.int _)⟩
      | tup h na q => exact ⟨_, _, rfl, .inr ⟨_, .inl h, rfl⟩, by rw [q.length]; exact kk _ _ H hr Grow.refl (.int _)⟩
      | scr h na => exact ⟨_, _, rfl, .inl ⟨_, .inl h, rfl⟩, by rw [List.length_map]; exact kk _ _ H hr.2 Grow.refl (.int _)⟩
      | scrK h => obtain ⟨rfl, hr⟩ := hr; exact ⟨_, _, rfl, .inl ⟨_, .inr h, rfl⟩, by rw [List.length_map]; exact kk _ _ H hr Grow.refl (.int _)⟩
      | str s => exact ⟨_, _, rfl, ⟨hr.1, rfl⟩, kk _ _ H hr.2 Grow.refl (.int _)⟩
      | _ => exact hr.elim
/-- of a list that may change -/
def wLenM (i : Nat) (env : Env) (Q : D → Env → Prop) (_ : AX) : Prop := ∃ s ds, env[i]? = some s ∧ mutOf s = some ds ∧ Q (.int ds.length) env
section
variable {X : Cx} {c : Cn} {Wx : WX} {e a b : Expr} {es : List Expr} {pos p p' : Pos} {x : Str} {w : AA} {we : AE}
theorem a_lenM {i : Nat} (hg : Gl X "len") (hm : X.mg "len" = none) (hp : PE X (.Name x p') (tVar i)) (he : starEach [.Name x p'] X.env = (false, eval (.Name x p') X.env) :: starEach [] X.env := by rfl) (hpl : (backTo pos (starEach [] X.env)).any (·.1) = false := by rfl) :
    PE X (.Call (.Name "len" p) [.Name x p'] [] pos) (liftE c Wx (wLenM i)) := PE.imp (fun σ H Q ⟨Av, env, Qa, Xa, g, ⟨s, ds, e1, e2, q⟩, k, x⟩ => by
      obtain ⟨a, vs, e3, e4, e5, e6, _⟩ := g.mutAt e1 e2
      exact ⟨_, e3, _, _, rfl, .inl ⟨_, .inl (.inl e5), rfl⟩, by rw [e6.length]; exact k _ env _ Av H q g Mono.refl (.int _)⟩) (pe_callB call_len hg hm PySem.boot_len (pa_cons hp pa_nil he) (by decide) (by decide) he hpl)
/-! numbers -/
def absD : RC := fun ds k => match ds with
  | [.int i] => k (.int (if i < 0 then -i else i))
  | _ => False
theorem calld_abs : CallD (fun xs H Q => ∃ i, xs = [.int i] ∧ Q (.int (if i < 0 then -i else i)) H) absD := by
  intro Av H xs ds k Q hl hd hr kk
  cases hd with
  | nil => exact hr.elim
  | cons h t =>
    cases t with
    | cons => cases h <;> exact hr.elim
    | nil =>
      cases h with
      | int i => exact ⟨i, rfl, kk _ _ H hr Grow.refl (.int _)⟩
      | _ => exact hr.elim
def maxD : RC := fun ds k => match ds with
  | [.int i, .int j] => k (.int (if j > i then j else i))
  | _ => False
def minD : RC := fun ds k => match ds with
  | [.int i, .int j] => k (.int (if j < i then j else i))
  | _ => False
theorem calld_max2 : CallD (fun xs H Q => ∃ i j, xs = [.int i, .int j] ∧ Q (.int (if j > i then j else i)) H) maxD := by
  intro Av H xs ds k Q hl hd hr kk
  cases hd with
  | nil => exact hr.elim
  | cons h t =>
    cases t with
    | nil => cases h <;> exact hr.elim
    | cons h2 t2 =>
      cases t2 with
      | cons => cases h <;> cases h2 <;> exact hr.elim
      | nil =>
        cases h with
        | int i =>
          cases h2 with
          | int j => exact ⟨i, j, rfl, kk _ _ H hr Grow.refl (.int _)⟩
          | _ => exact hr.elim
        | _ => cases h2 <;> exact hr.elim
theorem calld_min2 : CallD (fun xs H Q => ∃ i j, xs = [.int i, .int j] ∧ Q (.int (if j < i then j else i)) H) minD := by
  intro Av H xs ds k Q hl hd hr kk
  cases hd with
  | nil => exact hr.elim
  | cons h t =>
    cases t with
    | nil => cases h <;> exact hr.elim
    | cons h2 t2 =>
      cases t2 with
      | cons => cases h <;> cases h2 <;> exact hr.elim
      | nil =>
        cases h with
        | int i =>
          cases h2 with
          | int j => exact ⟨i, j, rfl, kk _ _ H hr Grow.refl (.int _)⟩
          | _ => exact hr.elim
        | _ => cases h2 <;> exact hr.elim
def intC : RC := fun ds k => match ds with
  | [.int i] => k (.int i)
  | [.bl b] => k (.int (if b then 1 else 0))
  | _ => False
theorem calld_int : CallD (fun xs H Q => (∃ i, xs = [.int i] ∧ Q (.int i) H) ∨ ∃ k, xs = [.bl k] ∧ Q (.int (if k then 1 else 0)) H) intC := by
  intro Av H xs ds k Q hl hd hr kk
  cases hd with
  | nil => exact hr.elim
  | cons h t =>
    cases t with
    | cons => cases h <;> exact hr.elim
    | nil =>
      cases h with
      | int i => exact .inl ⟨i, rfl, kk _ _ H hr Grow.refl (.int _)⟩
      | bl b => exact .inr ⟨b, rfl, kk _ _ H hr Grow.refl (.int _)⟩
      | _ => exact hr.elim
/-! all(list of bools) -/
def allD : RC := fun ds k => match ds with
  | [.lst xs] => ∃ bs : List Bool, xs = bs.map D.bl ∧ k (.bl (bs.all fun b => b))
  | _ => False
theorem calld_all {K : PySem.W.Frag} : CallD (rAll K) allD := by
  intro Av H xs ds k Q hl hd hr kk
  cases hd with
  | nil => exact hr.elim
  | cons h t =>
    cases t with
    | cons => cases h <;> exact hr.elim
    | nil =>
      cases h with
      | lst h na q =>
        obtain ⟨bs, rfl, hr⟩ := hr
        have e := q.inj_bls
        subst e
        exact ⟨_, bs, rfl, .inl (.inl h), kk _ _ H hr Grow.refl (.bl _)⟩
      | _ => exact hr.elim
/-! list(..), tuple(..) -/
def listF : RF := fun ds k => match ds with
  | [.lst xs] => k xs
  | [.tup xs] => k xs
  | _ => False
theorem callf_list {K : PySem.W.Frag} : CallF (fun xs H Q => ∃ p ys, xs = [.ref p] ∧ (SqL K H p ys ∨ SqT K H p ys) ∧ ∀ l, H l = none → Q (.ref l) (L2.upd H l (.lst ys))) listF := by
  intro Av H xs ds k Q hl hd hr kk
  cases hd with
  | nil => exact hr.elim
  | cons h t =>
    cases t with
    | cons => cases h <;> exact hr.elim
    | nil =>
      cases h with
      | lst h na q => exact ⟨_, _, rfl, .inl (.inl (.inl h)), fun l hp => kk _ _ l hr hp q⟩
      | tup h na q => exact ⟨_, _, rfl, .inr (.inl h), fun l hp => kk _ _ l hr hp q⟩
      | _ => exact hr.elim
def tupC : RC := fun ds k => match ds with
  | [.lst xs] => k (.tup xs)
  | [.tup xs] => k (.tup xs)
  | _ => False
theorem calld_tuple {K : PySem.W.Frag} : CallD (fun xs H Q => ∃ p ys, xs = [.ref p] ∧ ((SqL K H p ys ∧ ∀ l, H l = none → Q (.ref l) (L2.upd H l (.tup ys))) ∨ (SqT K H p ys ∧ Q (.ref p) H))) tupC := by
  intro Av H xs ds k Q hl hd hr kk
  cases hd with
  | nil => exact hr.elim
  | cons h t =>
    cases t with
    | cons => cases h <;> exact hr.elim
    | nil =>
      cases h with
      | lst h na q => exact ⟨_, _, rfl, .inl ⟨.inl (.inl h), fun l hp => kk _ _ _ hr (keepNew hp) (.tup (.inl upd_same) (fun z => by
          obtain ⟨o, e⟩ := hl l z
          rw [hp] at e; cases e) (q.mono (Mono.new hp)))⟩⟩
      | tup h na q => exact ⟨_, _, rfl, .inr ⟨.inl h, kk _ _ H hr Grow.refl (.tup h na q)⟩⟩
      | _ => exact hr.elim
/-! repr -/
def reprD : RC := fun ds k => match ds with
  | [d] => ∃ p, d.py = some p ∧ (p.showable = true ∧ p.depth ≤ 60 ∧ p.shown.length ≤ sizeLine) ∧ k (.str p.shown)
  | _ => False
theorem calli_repr (hS : SysB X.base) (hG : Calm X.A) (hu : X.A.units + 64 < cLine) : CallI X (.builtin "repr") reprD := by
  intro pins s σ H Av xs us ds k Q I hl rv hd hr kk
  cases hd with
  | nil => exact hr.elim
  | cons h t =>
    cases t with
    | cons => exact hr.elim
    | nil =>
      obtain ⟨p, e1, ⟨e2, e3, e4⟩, kp⟩ := hr
      cases rv with
      | @cons _ u _ _ r0 r1 =>
        cases r1
        have fin : ∀ (t : Tok) (s' : Shared), Inv X pins σ H s' → EP X pins σ Q (.str p.shown t) s' := fun t s' J => ⟨.str p.shown, H, J, ⟨_, rfl⟩, kk _ _ H kp Grow.refl (.str _)⟩
        have big : ∀ (a : Addr), u = .ref a → wpAny (model X.prog X.w) X.A (call (.builtin "repr") [u]) (EP X pins σ Q) X.xe s := fun a ea => by
          obtain ⟨as, h1, h2⟩ := h.reads I (hS.ne I) e1 r0
          subst ea
          exact repr_of_reads' h1 e2 (fun _ => h2) hG (by omega) (fun _ _ e => e) (fun h' u tk hk => fin _ _ (I.kept hk)) e4
        cases h with
        | non => cases r0; rw [D.py] at e1; cases e1; exact PySem.P.repr_of_none (fin _ _ (I.tok _))
        | bl b => cases r0; rw [D.py] at e1; cases e1; exact PySem.P.repr_of_bool (fin _ _ (I.tok _))
        | int i =>
          obtain ⟨t, rfl⟩ := r0
          rw [D.py] at e1; cases e1
          exact PySem.P.repr_of_int (of_decide_eq_true (by simpa [PyData.showable] using e2)) (fin _ _ (I.tok _))
        | str y =>
          obtain ⟨t, rfl⟩ := r0
          rw [D.py] at e1; cases e1
          exact PySem.P.repr_of_str (fin _ _ (I.tok _)) (by simpa [PyData.shown] using e4)
        | ty n => rw [D.py] at e1; cases e1
        | atm a => rw [D.py] at e1; cases e1
        | tup => exact big _ r0
        | lst => exact big _ r0
        | dic => exact big _ r0
        | ins => exact big _ r0
        | err => exact big _ r0
        | scr => exact big _ r0
        | scrK => exact big _ r0
end
end DL
set_option Elab.async false
set_option linter.all false
set_option maxRecDepth 100000
set_option maxHeartbeats 4000000
namespace DLE
open PySem PySem.Spec PySem.Calls PyProof.Rows PySem.W
section
variable {prog : Program} {w : World} {A : Around} {E : Value → Shared → Prop} {s : Shared} {K : Frag} {x D : Addr} {ox : Obj} {od : Option Obj}
/-- x.__class__ of an exception of an own class, whatever its dict -/
theorem class_of_exc {Q : Option Value → Shared → Prop} (T : L2.ExcC K D) (X : K.In s.heap) (I : InstAt s.heap x ox D od) (h : Q (some (.ref D)) { s with toks := s.toks + 1 }) : wpAny (model prog w) A (getAttr? (.ref x) "__class__") Q E s := by
  obtain ⟨hga, hgt, hsub, hdct, ha, hn, htk, hm⟩ := T
  have hf : findObj K D od "__class__" = some (.bind (.builtin "getset_descriptor.__get__") (.builtin "object.__class__")) := by
    have hs : (clsIn K D).isSome = true := by
      obtain ⟨cd, hc, _⟩ := any_some hdct
      rw [hc]; rfl
    cases od with
    | none => exact findObj_dataN hs ha hn htk
    | some o => exact findObj_data hs ha hn htk
  have e2 : (Value.builtin "BaseException.__getattribute__" == Value.builtin "object.__getattribute__") = false := by decide +kernel
  have e1 : (onTheHeap (Value.ref D) && Value.builtin "BaseException.__getattribute__" == Value.builtin "object.__getattribute__") = false := by rw [e2]; rfl
  have e0 : (false && onTheHeap (Value.builtin "BaseException.__getattribute__")) = false := rfl
  obtain ⟨hp, gs, dr, tk, os⟩ := s
  have lT := I.type (M := model prog w)
  have lF := looks_find (M := model prog w) X I hf
  have lS : Looks (model prog w) hp (isInstance (.ref x) (.type "BaseException")) true := lT.andThen (looks_subIn X hsub)
  unfold getAttr? getAttrBy? getAttrBy
  refine wpAny_bind (wpAny_mkText (wpAny_bind (wpAny_attempt (wpAny_holding (wpAny_bind (lT.at (wpAny_bind ((looks_findIn (M := model prog w) X hga).at ?_))))))))
  show wpAny _ _ (if (onTheHeap (Value.ref D) && Value.builtin "BaseException.__getattribute__" == Value.builtin "object.__getattribute__") = true then _ else _) _ _ _
  rw [e1, if_neg Bool.false_ne_true]
  unfold getAttrByItsOwn hookBefore
  refine wpAny_bind ?_
  rw [if_pos (show onTheHeap (Value.ref D) = true from rfl)]
  refine (looks_findIn (M := model prog w) X hgt).at (wpAny_bind (wpAny_attempt (wpAny_holding ?_)))
  unfold callGetattribute
  rw [e0, if_neg Bool.false_ne_true]
  unfold boundAndCalled
  rw [PySem.F.excAttr_ValueError.ga.bind (.ref x)]
  refine wpAny_bind (wpAny_pure ?_)
  show wpAny _ _ (call (.builtin "BaseException.__getattribute__") [.ref x, .str "__class__" tk]) _ _ _
  refine wpAny_call (codeAny_call_builtin PySem.F.excAttr_ValueError.ga.plain PySem.F.entry_bexc_ga (@check_slot (model prog w) _ _ ⟨hp, gs, dr, tk + 1, os⟩ "BaseException.__getattribute__" "BaseException" "__getattribute__" (.ref x) [.str "__class__" tk] [] _ (by decide +kernel) (by decide +kernel) lS (PySem.F.args_bexc_ga (.ref x) (.str "__class__" tk)) ?_))
  unfold Builtin.«object.__getattribute__»
  refine wpAny_bind (wpAny_of_eq (a := ((Value.ref x : Value), [Value.str "__class__" tk])) (by first | rfl | (simp only [slotArgs]; rfl)) (wpAny_bind (wpAny_pure (wpAny_bind (lT.at (wpAny_bind (lF.at ?_)))))))
  show wpAny _ _ (holding [Value.builtin "object.__class__"] (call (.builtin "getset_descriptor.__get__") [.builtin "object.__class__", .ref x, .ref D]) >>= ret) _ _ _
  refine wpAny_bind (wpAny_holding (wpAny_call (class_get (s := ⟨hp, gs, dr, tk + 1, os⟩) (ox := ox) (od := od) X I hm (wpAny_pure ?_))))
  show wpAny _ _ (handedOut (.ref D)) _ _ _
  rw [handedOut_of (v := .ref D) rfl]
  first
    | exact wpAny_pure (wpAny_pure h)
    | exact wpAny_pure h
    | exact wpAny_pure (wpAny_bind (wpAny_pure (wpAny_pure h)))
/-- what isinstance asks of such an exception -/
theorem kit_exc (T : L2.ExcC K D) : KitX K (.ref x) (.ref D) (fun h => InstAt h x ox D od) where
  ty := fun _ _ _ I => I.type
  it := fun M h k I => by
    obtain ⟨cd, hc, _⟩ := any_some T.hd
    unfold clsIn at hc
    split at hc
    · rename_i c' d' cd' sl' ho
      intro A' Q' E' s' kk q
      unfold isType loadHead
      exact wpAny_bind (wpAny_loadPart (kk _ _ (k _ _ ho)) (wpAny_pure q))
    · cases hc
  ne := (handS_kitx_exc (x := x) (ox := ox) T.hg T.hk T.hs T.hd T.ha T.hn T.ht T.hm).ne
  ca := fun X I k => class_of_exc T X I k
end
end DLE
namespace DL
open PySem L2
theorem inst_of {X : Cx} {pins : List (Addr × Obj)} {σ : L2.St} {H : Hp} {s : Shared} {a C d : Addr} {fs : List (Str × V)} (I : Inv X pins σ H s) (h1 : H a = some (exo a C (some d))) (h2 : H d = some (exd d fs)) :
    ∃ (ox od : Obj) (mA : Str → Option Value), PySem.W.InstAt s.heap a ox C (some od) ∧ (∀ name, PySem.W.lookIn name od = some (mA name)) ∧ ∀ f, RelO (fs.lookup f) (mA f) := by
  obtain ⟨t1, ho⟩ := exo_at I.hok h1
  obtain ⟨mA, hns, rel⟩ := exd_at I.hok h2
  obtain ⟨od, e, l⟩ := lookIn_ns hns
  exact ⟨_, od, mA, ⟨ho, rfl, rfl, e⟩, l, rel⟩
/-! ### isinstance -/
/-- the own classes whose instances are exceptions -/
inductive TyD (K : PySem.W.Frag) : D → Value → Prop
  | non : TyD K .non (.type "NoneType")
  | bl (b : Bool) : TyD K (.bl b) (.type "bool")
  | int (i : Int) : TyD K (.int i) (.type "int")
  | str (s : Str) : TyD K (.str s) (.type "str")
  | lst (ds : List D) : TyD K (.lst ds) (.type "list")
  | tup (ds : List D) : TyD K (.tup ds) (.type "tuple")
  | dic (ks : List Key) (ds : List D) : TyD K (.dic ks ds) (.type "dict")
  | err {C : Addr} (d : D) (T : ExcC K C) : TyD K (.err C d) (.ref C)
  | ins {C : Addr} (ks : List Str) (ds : List D) (cl : Cls K C) (ha : PySem.W.findIn K (.ref C) "__class__" = some (some (.builtin "object.__class__"))) (hn : PySem.W.specialIn K (.builtin "object.__class__") "__get__" = some (some (.builtin "getset_descriptor.__get__")))
      (htk : PySem.W.takesIn K (.builtin "object.__class__") = some true) (hm : PySem.W.mroIn K C (.type "object") = some true) : TyD K (.ins C ks ds) (.ref C)
inductive ClsD : D → Value → Prop
  | ty (n : String) : ClsD (.ty n) (.type n)
  | own (C : Addr) : ClsD (.atm C) (.ref C)
def isiD (K : PySem.W.Frag) : RC := fun ds k => match ds with
  | [x, cd] => ∃ t u b, TyD K x t ∧ ClsD cd u ∧ PySem.W.kitOne K t u = some b ∧ k (.bl b)
  | _ => False
theorem calli_isi {X : Cx} : CallI X (.builtin "isinstance") (isiD X.K) := by
  intro pins s σ H Av xs us ds k Q I hl rv hd hr kk
  cases hd with
  | nil => exact hr.elim
  | cons h1 t =>
    cases t with
    | nil => exact hr.elim
    | cons h2 t2 =>
      cases t2 with
      | cons => exact hr.elim
      | nil =>
        obtain ⟨t, u, b, ty, cl, ki, kb⟩ := hr
        obtain ⟨u1, u2, rfl, r1, r2⟩ := vals2 rv
        have eu : u2 = u := by
          cases cl with
          | ty n => cases h2; exact r2
          | own C => cases h2; exact r2
        subst eu
        have fin : ∀ tk, EP X pins σ Q (.bool b) { s with toks := tk } := fun tk => ⟨.bl b, H, I.tok tk, rfl, kk _ _ H kb Grow.refl (.bl b)⟩
        have viaX : ∀ {x : V}, RelV x u1 → TyX X.K H x t → wpAny (model X.prog X.w) X.A (call (.builtin "isinstance") [u1, u2]) (EP X pins σ Q) X.xe s := fun rx tx => by
          obtain ⟨P, Z, p, hx⟩ := kit_of I rx tx
          exact PySem.W.kia_one Z I.kIn p ki hx fin
        cases ty with
        | non => cases h1; exact viaX r1 (.base .non)
        | bl b => cases h1; exact viaX r1 (.base (.bl b))
        | int i => cases h1; exact viaX r1 (.base (.int i))
        | str s => cases h1; exact viaX r1 (.base (.str s))
        | lst ds => cases h1 with
          | lst h na q => exact viaX r1 (.base (.lst h))
        | tup ds => cases h1 with
          | tup h na q =>
            rcases h with h | ⟨o, h⟩
            · exact viaX r1 (.base (.tup h))
            · exact viaX r1 (.fTuple h)
        | dic ks ds => cases h1 with
          | dic h na q =>
            rcases h with h | ⟨o, h⟩
            · exact viaX r1 (.base (.dK h))
            · exact viaX r1 (.fDict h)
        | err d T => cases h1 with
          | err h h' na ne q =>
            obtain ⟨ox, od, mA, J, _⟩ := inst_of I h h'
            cases r1
            exact PySem.W.kia_one (DLE.kit_exc T) I.kIn J ki (fun z => nomatch z) fin
        | ins ks ds cl' ha hn htk hm => cases h1 with
          | ins h na q => exact viaX r1 (.base (.ins h cl' ha hn htk hm))
/-! ### an exception as a value: made, its value read -/
/-- self.value = value, of a fresh exception -/
def spInitE (K : PySem.W.Frag) : Sp := fun vs H Q _ => ∃ a C v, vs = [.ref a, v] ∧ OexC K C ∧ PySem.W.findIn K (.ref C) "value" = some none ∧ H a = some (exo a C none) ∧ ∀ dx, H dx = none → dx ≠ a → Q .non (upd (upd H dx (exd dx [("value", v)])) a (exo a C (some dx)))
structure ErrC (K : PySem.W.Frag) (mg : Str → Option Value) (x : Str) (C fI : Addr) : Prop where
  o : OexC K C
  nv : PySem.W.findIn K (.ref C) "value" = some none
  iC : PySem.W.findIn K (.ref C) "__init__" = some (some (.ref fI))
  tI : PySem.W.typeIn K (.ref fI) = some (.type "function")
  mg : mg x = some (.ref C)
  ec : ExcC K C
theorem calm_make {A : Around} (h : Calm A) (C : Addr) (us : List Value) (kw : List (Str × Value)) : Calm (A.under (.builtin "type.__call__" ⟨.ref C :: us, kw⟩)) := by
  have e : (Code.builtin "type.__call__" ⟨.ref C :: us, kw⟩).guards = [] := by
    unfold Code.guards
    rw [if_neg]
    have : (Code.builtin "type.__call__" ⟨.ref C :: us, kw⟩).isGuard = guardIds.contains "type.__call__" := rfl
    rw [this]
    decide
  show pushGuards (Code.builtin "type.__call__" ⟨.ref C :: us, kw⟩).guards A.guards = some []
  rw [e, show A.guards = some [] from h]
  rfl
def tMkE (C : Addr) (ta : TA) : TE := fun σ H Q => ta σ H fun vs H1 => ∃ v, vs = [v] ∧ ∀ a d, H1 a = none → H1 d = none → d ≠ a → Q (.ref a) (upd (upd H1 d (exd d [("value", v)])) a (exo a C (some d)))
section
variable {X : Cx} {c : Cn} {Wx : WX} {e a b : Expr} {es : List Expr} {pos p : Pos} {x : Str} {w : AA} {we : AE} {C fI : Addr} {fd : FuncData} {k : Nat}
theorem pe_mkE {ta : TA} (T : ErrC X.K X.mg x C fI) (F : FnG X.prog X.w X.K X.mg X.base k fI fd ["self", "value"] (spInitE X.K)) (hr : Room (k + 1) X.A) (hG : Calm X.A) (hb : Binds X.K fd ["self", "value"] []) (hg : Gl X x) (ha : PA X (e :: es) ta)
    (hdb : (x == ("__debug__" : Str)) = false := by decide) (he : starEach (e :: es) X.env = (false, eval e X.env) :: starEach es X.env := by rfl) (hpl : (backTo pos (starEach es X.env)).any (·.1) = false := by rfl) :
    PE X (.Call (.Name x p) (e :: es) [] pos) (tMkE C ta) := by
  refine ⟨fun pins s σ H Q I h => ?_⟩
  obtain ⟨nm, q, N, bs, bm, sn, sub, ab, col, dd, k0, k1, k2, k3, k5, hC, hbm⟩ := T.o.cls
  refine PySem.wpAny_Call_Name_kw (ld_glob I hg T.mg (PySem.W.callWith_K (h₀ := X.base) I.ok.mod.kin T.o.kC (thn (ha.run pos pins s σ H _ I h) fun us s1 ⟨vs, H1, I1, r1, v, ev, q1⟩ => ⟨I1.kIn, ?_⟩) he hpl) hdb)
  show wpAny _ _ (call (.ref C) us) _ _ _
  subst ev
  obtain ⟨u, rfl, ru⟩ := r1.one
  obtain ⟨hp, gs, dr, tk, os⟩ := s1
  have big : hp.objs.size ≤ hp.objs.size + 1 := Nat.le_succ _
  have hn : H1 (hp.objs.size + 1) = none := I1.hok.fresh big
  have up : ∀ b o, hp.get? b = some o → ((hp.push (PySem.W.kdv_tup [u])).push (PySem.HandSPX.excO C hp.objs.size)).get? b = some o := fun b o z => Heap.get?_push_of_some _ (Heap.get?_push_of_some _ z)
  have here : ((hp.push (PySem.W.kdv_tup [u])).push (PySem.HandSPX.excO C hp.objs.size)).get? (hp.objs.size + 1) = some (PySem.HandSPX.excO C hp.objs.size) := by heap_get
  have I2 : Inv X pins σ (upd H1 (hp.objs.size + 1) (exo (hp.objs.size + 1) C none)) ⟨(hp.push (PySem.W.kdv_tup [u])).push (PySem.HandSPX.excO C hp.objs.size), gs, dr, tk, os⟩ :=
    I1.laid (t' := tk) (a := hp.objs.size + 1) (o := exo (hp.objs.size + 1) C none) (h' := (hp.push (PySem.W.kdv_tup [u])).push (PySem.HandSPX.excO C hp.objs.size)) up big (exo_ok here)
  have bd := hb ⟨(hp.push (PySem.W.kdv_tup [u])).push (PySem.HandSPX.excO C hp.objs.size), gs, dr, tk, os⟩ [Value.ref (hp.objs.size + 1), u] I2.kIn rfl
  refine wpAny_call (PySem.HandSPX.call_own PySem.F.excBase_ValueError (fun Y => PySem.HandSPX.refsVE_contains Y bm hbm) (I1.kIn _ _ hC) (PySem.W.looks_findIn I1.kIn T.iC) (fun self => PySem.W.bind_fn I1.kIn self T.tI) (by show 1 ≤ sizeLine; decide)
    (codeAny_mono (F.run _ (hr.make C [u] []) (calm_make hG C [u] []) X.stack _ _ (I2.env0.make C [u] []) ⟨[Value.ref (hp.objs.size + 1), u], []⟩ [Value.ref (hp.objs.size + 1), u] [V.ref (hp.objs.size + 1), v] bd (.cons rfl (.cons ru .nil))
      (fun z H2 => z = .non ∧ ∃ dx, H1 dx = none ∧ dx ≠ hp.objs.size + 1 ∧ H2 = upd (upd (upd H1 (hp.objs.size + 1) (exo (hp.objs.size + 1) C none)) dx (exd dx [("value", v)])) (hp.objs.size + 1) (exo (hp.objs.size + 1) C (some dx))) (fun _ _ _ => False)
      ⟨_, C, v, rfl, T.o, T.nv, upd_same, fun dx hd hne => ⟨rfl, dx, by rw [upd_ne hne] at hd; exact hd, hne, rfl⟩⟩) fun r s' hq' => ?_))
  cases r with
  | error er =>
    obtain ⟨_, _, _, _, _, _, _, _, _, _, _, _, z⟩ := hq'
    exact z.elim
  | ok fl =>
    cases fl with
    | ret u' =>
      obtain ⟨z, H2, I3, rv, ez, dx, h1, h2, e2⟩ := I2.after hq'
      subst ez
      refine ⟨rv, ⟨V.ref (hp.objs.size + 1), H2, I3, rfl, ?_⟩⟩
      have e3 : H2 = upd (upd H1 dx (exd dx [("value", v)])) (hp.objs.size + 1) (exo (hp.objs.size + 1) C (some dx)) := by
        rw [e2]
        funext y
        by_cases hy : y = hp.objs.size + 1
        · rw [hy, upd_same, upd_same]
        · rw [upd_ne hy, upd_ne hy]
          by_cases hz : y = dx
          · rw [hz, upd_same, upd_same]
          · rw [upd_ne hz, upd_ne hz, upd_ne hy]
      rw [e3]
      exact q1 _ dx hn h1 h2
    | next => exact False.elim hq'
    | brk => exact False.elim hq'
    | cont => exact False.elim hq'
def wMkE (C : Addr) (w : AA) (env : Env) (Q : D → Env → Prop) (X : AX) : Prop := w env (fun as env' => ∃ d, as = [.vl d] ∧ Q (.err C d) env') X
theorem a_mkE (T : ErrC X.K X.mg x C fI) (F : FnG X.prog X.w X.K X.mg X.base k fI fd ["self", "value"] (spInitE X.K)) (hr : Room (k + 1) X.A) (hG : Calm X.A) (hb : Binds X.K fd ["self", "value"] []) (hg : Gl X x) (ha : PA X (e :: es) (liftA c Wx w))
    (hdb : (x == ("__debug__" : Str)) = false := by decide) (he : starEach (e :: es) X.env = (false, eval e X.env) :: starEach es X.env := by rfl) (hpl : (backTo pos (starEach es X.env)).any (·.1) = false := by rfl) :
    PE X (.Call (.Name x p) (e :: es) [] pos) (liftE c Wx (wMkE C w)) := PE.imp (fun σ H Q ⟨Av, env, Qa, Xa, g, q, k, x⟩ =>
      ⟨Av, env, _, Xa, g, q, fun as env' vs Av' H' ⟨d, ea, q'⟩ g' m' d' => by
        subst ea
        cases d' with
        | @cons v0 _ _ _ h t =>
          cases t
          refine ⟨_, rfl, fun a dd h1 h2 h3 => ?_⟩
          have ne1 : Grow H' (upd (upd H' dd (exd dd [("value", v0)])) a (exo a C (some dd))) := fun b o e => by rw [upd_ne (ne_of_none e h1), upd_ne (ne_of_none e h2)]; exact e
          exact k _ env' _ Av' _ q' (g'.grow ne1) (m'.trans (Mono.grow ne1)) (.err upd_same (by rw [upd_ne h3, upd_same]) (g'.notAv h1) (g'.notAv h2) (Den.mono (Mono.grow ne1) h)), x⟩) (pe_mkE T F hr hG hb hg ha hdb he hpl)
/-- e.value -/
def wValE (K : PySem.W.Frag) (we : AE) (env : Env) (Q : D → Env → Prop) (X : AX) : Prop := we env (fun d env' => ∃ C d', d = .err C d' ∧ (ExcC K C ∧ PySem.W.findIn K (.ref C) "value" = some none) ∧ Q d' env') X
theorem a_valE (he : PE X e (liftE c Wx we)) (hb : attributeBase e "value" X.env (eval e X.env) = eval e X.env := by rfl) : PE X (.Attribute e "value" pos) (liftE c Wx (wValE X.K we)) := by
  refine ⟨fun pins s σ H Q I ⟨Av, env, Qa, Xa, g, q, k, x⟩ => attr_of hb (thn (he.run pins s σ H (fun v H' => ∃ Av' env' C d', Good c Av' σ H' env' ∧ Mono Av H Av' H' ∧ Den Av' H' v (.err C d') ∧ (ExcC X.K C ∧ PySem.W.findIn X.K (.ref C) "value" = some none) ∧ Qa d' env') I
    ⟨Av, env, _, Xa, g, q, fun d env' v Av' H' ⟨C, d', ed, hT, q'⟩ g' m' dn => by subst ed; exact ⟨Av', env', C, d', g', m', dn, hT, q'⟩, x⟩) fun u s1 ⟨v, H1, I1, rv, Av1, env1, C, d', g1, m1, dn, ⟨T, hnv⟩, q1⟩ => ?_)⟩
  cases dn with
  | @err a C e v d h h' na ne dv =>
    cases rv
    obtain ⟨ox, od, mA, J, l, rel⟩ := inst_of I1 h h'
    obtain ⟨uv, hu, ru⟩ := RelO.some_of (v := v) (o := mA "value") (rel "value")
    exact PySem.HandSPX.exc_get I1.kIn J T.hg T.hk T.hs (PySem.W.findObj_own T.hd hnv rfl (by rw [l, hu])) (handed_of ru) ⟨v, H1, I1.tok _, ru, k d' env1 v Av1 H1 q1 g1 m1 dv⟩
end
end DL
set_option Elab.async false
set_option linter.all false
set_option maxRecDepth 100000
set_option maxHeartbeats 4000000
namespace DL
open PySem L2
section
variable {X : Cx} {c : Cn} {Wx : WX} {e a b : Expr} {es : List Expr} {pos p p' : Pos} {x : Str} {w : AA} {we wa wb : AE}
/-! ### targets within a comprehension; pairs -/
theorem wipe_set {σ : L2.St} {j : Nat} {o : Option V} : ∀ {vs : List Nat}, j ∈ vs → wipe (σ.set j o) vs = wipe σ vs := by
  intro vs hj
  refine List.ext_getElem? fun i => ?_
  by_cases hi : i ∈ vs
  · by_cases hl : i < σ.length
    · have key : ∀ (τ : L2.St), τ.length = σ.length → (wipe τ vs)[i]? = some none := fun τ ht => by
        have h1 : i < (wipe τ vs).length := by rw [wipe_length, ht]; exact hl
        rw [List.getElem?_eq_getElem h1]
        cases q : (wipe τ vs)[i] with
        | none => rfl
        | some z =>
          have := (wipe_some (σ := τ) (vs := vs) (i := i) (x := z) (by rw [List.getElem?_eq_getElem h1, q])).2
          exact absurd hi this
      rw [key _ (by rw [List.length_set]), key _ rfl]
    · rw [List.getElem?_eq_none (by rw [wipe_length, List.length_set]; omega), List.getElem?_eq_none (by rw [wipe_length]; omega)]
  · have hij : j ≠ i := fun z => hi (z ▸ hj)
    rw [wipe_out hi, wipe_out hi, List.getElem?_set_ne hij]
/-- a target that stores names of the block alone, from whatever stands -/
def GOkW (c : Cn) (g : TG) (w : AG) (vs : List Nat) : Prop := ∀ Av σ H env v d Qe Q, Good c Av σ H env → Den Av H v d → w d env Qe → (∀ env' Av' σ' H', wipe σ' vs = wipe σ vs → Qe env' → Good c Av' σ' H' env' → Mono Av H Av' H' → Q σ' H') → g v σ H Q
theorem wipe_wipe {σ : L2.St} {vs : List Nat} : wipe (wipe σ vs) vs = wipe σ vs := by
  have key : ∀ ws : List Nat, (∀ w ∈ ws, w ∈ vs) → wipe (wipe σ ws) vs = wipe σ vs := by
    intro ws
    induction ws with
    | nil => intro _; rfl
    | cons w ws ih =>
      intro h
      rw [wipe, wipe_set (h w List.mem_cons_self)]
      exact ih fun z hz => h z (List.mem_cons_of_mem _ hz)
  exact key vs fun _ h => h
theorem GOkW.v {g : TG} {w : AG} {vs : List Nat} (h : GOkW c g w vs) : GOkV c g w vs := fun Av σ₀ H env v d Qe Q g' hd q k => h Av _ H env v d Qe Q g' hd q fun env' Av' σ' H' e q' g'' m => k env' Av' σ' H' (by rw [e, wipe_wipe]) q' g'' m
theorem gokw_name {j : Nat} {vs : List Nat} (hj : j ∈ vs) : GOkW c (gName j) (gN j) vs := fun Av σ H env v d Qe Q g hd q k => k _ Av _ H (wipe_set hj) q (g.setVal hd j) Mono.refl
abbrev AGs := List D → Env → (Env → Prop) → Prop
def gNilD (ds : List D) (env : Env) (Q : Env → Prop) : Prop := ds = [] ∧ Q env
def gConsD (g : AG) (gs : AGs) (ds : List D) (env : Env) (Q : Env → Prop) : Prop := ∃ d r, ds = d :: r ∧ g d env fun env' => gs r env' Q
def gTupD (n : Nat) (gs : AGs) (d : D) (env : Env) (Q : Env → Prop) : Prop := ∃ ds, d = .tup ds ∧ ds.length = n ∧ gs ds env Q
def GsOk (c : Cn) (g : TGs) (w : AGs) (vs : List Nat) : Prop := ∀ Av σ H env xs ds Qe Q, Good c Av σ H env → Dens Av H xs ds → w ds env Qe → (∀ env' Av' σ' H', wipe σ' vs = wipe σ vs → Qe env' → Good c Av' σ' H' env' → Mono Av H Av' H' → Q σ' H') → g xs σ H Q
theorem gsok_nil {vs : List Nat} : GsOk c gNil gNilD vs := fun Av σ H env xs ds Qe Q g hd ⟨e, q⟩ k => by
  subst e
  cases hd
  exact ⟨rfl, k env Av σ H rfl q g Mono.refl⟩
theorem gsok_cons {t : TG} {u : TGs} {w : AG} {ws : AGs} {vs : List Nat} (h : GOkW c t w vs) (hs : GsOk c u ws vs) : GsOk c (gCons t u) (gConsD w ws) vs := fun Av σ H env xs ds Qe Q g hd ⟨d, r, e, q⟩ k => by
  subst e
  cases hd with
  | @cons v vr _ _ h1 t1 =>
    exact ⟨v, vr, rfl, h Av σ H env v d _ _ g h1 q fun env' Av' σ' H' e1 q' g' m' => hs Av' σ' H' env' vr r _ _ g' (t1.mono m') q' fun env'' Av'' σ'' H'' e2 q'' g'' m'' => k env'' Av'' σ'' H'' (e2.trans e1) q'' g'' (m'.trans m'')⟩
theorem gokw_tup {K : PySem.W.Frag} {n : Nat} {t : TGs} {ws : AGs} {vs : List Nat} (h : GsOk c t ws vs) : GOkW c (gTup K n t) (gTupD n ws) vs := fun Av σ H env v d Qe Q g hd ⟨ds, e, hl, q⟩ k => by
  subst e
  cases hd with
  | tup h1 na qs => exact ⟨_, _, rfl, .inl h1, by rw [qs.length]; exact hl, h Av σ H env _ ds Qe Q g qs q k⟩
theorem GOkW.ok {g : TG} {w : AG} {vs : List Nat} (h : GOkW c g w vs) : GOk c g w := fun Av σ H env v d Qe Q g' hd q k => h Av σ H env v d Qe Q g' hd q fun env' Av' σ' H' _ q' g'' m => k env' Av' σ' H' q' g'' m

/-! ### enumerate -/
def enumD : Nat → List D → List D
  | _, [] => []
  | n, d :: ds => .tup [.int n, d] :: enumD (n + 1) ds
theorem enumD_len : ∀ (n : Nat) (ds : List D), (enumD n ds).length = ds.length
  | _, [] => rfl
  | n, d :: ds => by rw [enumD, List.length_cons, List.length_cons, enumD_len]
theorem enumD_get : ∀ (n : Nat) (ds : List D) (i : Nat) (d : D), (enumD n ds)[i]? = some d → ∃ y, ds[i]? = some y ∧ d = .tup [.int ((n + i : Nat) : Int), y]
  | _, [], i, d, e => by simp [enumD] at e
  | n, y :: ds, 0, d, e => by simp [enumD] at e; exact ⟨y, rfl, by rw [← e]; rfl⟩
  | n, y :: ds, i + 1, d, e => by
    obtain ⟨z, h1, h2⟩ := enumD_get (n + 1) ds i d (by simpa [enumD] using e)
    exact ⟨z, by simpa using h1, by rw [h2, show n + 1 + i = n + (i + 1) by omega]⟩
theorem itd_enum {K : PySem.W.Frag} {Av : AvS} {H : Hp} {a : Addr} {vs : List V} {ds : List D} (h : H a = some (.lst vs)) (na : ¬ Av a) (q : Dens Av H vs ds) : ItD Av H (Ite K a) (enumD 0 ds) where
  go := fun i d Av1 H1 e hl m => by
    obtain ⟨y, e1, rfl⟩ := enumD_get 0 ds i d e
    obtain ⟨v, e2, e3⟩ := q.get e1
    have r : SqL K H1 a vs := .inl (.inl (m.kp _ _ na h))
    refine ⟨⟨vs, v, r, e2⟩, fun x H' yy => ?_⟩
    obtain ⟨T, x', rfl, hT, rfl, hx⟩ := yy
    have e4 := hx vs r
    rw [e2] at e4; cases e4
    refine ⟨keepNew hT, .tup (.inl upd_same) (fun z => ?_) (.cons ?_ (.cons (e3.mono (m.trans (Mono.new hT))) .nil))⟩
    · obtain ⟨o, eo⟩ := hl T z
      rw [hT] at eo; cases eo
    · rw [Nat.zero_add]; exact .int _
  stop := fun Av1 H1 m => ⟨vs, .inl (.inl (m.kp _ _ na h)), by rw [enumD_len]; exact Nat.le_of_eq q.length⟩
def wEnum (w : AE) (env : Env) (Q : List D → Env → Prop) (X : AX) : Prop := w env (fun d env' => ∃ ds, d = .lst ds ∧ Q (enumD 0 ds) env') X
theorem i_enum {tpos : Pos} {elts : List Expr} {kk : Nat} {wa : AE} (hg : Gl X "enumerate") (hm : X.mg "enumerate" = none) (ha : PE X e (liftE c Wx wa)) (hs : starEach [e] X.env = (false, eval e X.env) :: starEach [] X.env := by rfl) :
    PI X (.Tuple elts kk tpos) (.Call (.Name "enumerate" p) [e] [] pos) (liftI c Wx (wEnum wa)) := PI.imp (fun σ H R ⟨Av, env, Qa, Xa, g, q, k, x⟩ =>
      ⟨Av, env, _, Xa, g, q, fun d env' v Av' H' q' g' m' d' => by
        obtain ⟨ds, rfl, q'⟩ := q'
        cases d' with
        | lst h na qs => exact ⟨_, _, rfl, .inl (.inl h), k _ env' Av' H' _ q' g' m' (itd_enum h na qs)⟩, x⟩) (pi_enum hg hm (pa_cons ha pa_nil hs) hs)

/-! ### methods of a list that may change -/
def wAppend (i : Nat) (wa : AE) (env : Env) (Q : D → Env → Prop) (X : AX) : Prop := (∃ s ds, env[i]? = some s ∧ mutOf s = some ds) ∧ wa env (fun d env1 => ∃ s ds, env1[i]? = some s ∧ mutOf s = some ds ∧ ds.length < sizeLine ∧ Q .non (env1.set i (setMut s (ds ++ [d])))) X
def wExtend (i : Nat) (wa : AE) (env : Env) (Q : D → Env → Prop) (X : AX) : Prop := (∃ s ds, env[i]? = some s ∧ mutOf s = some ds) ∧ wa env (fun d env1 => ∃ s ds es, env1[i]? = some s ∧ mutOf s = some ds ∧ d = .lst es ∧ ds.length + es.length ≤ sizeLine ∧ Q .non (env1.set i (setMut s (ds ++ es)))) X
section
variable {i : Nat} {apos cpos : Pos}
theorem a_append (hp : PE X (.Name x p) (tVar i)) (ha : PE X e (liftE c Wx wa))
    (hbase : attributeBase (.Name x p) "append" X.env (eval (.Name x p) X.env) = eval (.Name x p) X.env := by rfl)
    (hfew : ((backTo cpos (starEach [e] X.env)).all (fun x => !x.1) && (backToKw cpos (keywordEach [] X.env)).all (fun x => x.1.isSome)
      && decide (([e] : List Expr).length + ([] : List Keyword).length + (if ([] : List Keyword).isEmpty then 0 else 1) < 30)) = true := by rfl)
    (hline : (apos.endLine == cpos.line) = true := by rfl) (hs : starEach [e] X.env = (false, eval e X.env) :: starEach [] X.env := by rfl) (hplain : (backTo cpos (starEach [] X.env)).any (·.1) = false := by rfl) :
    PE X (.Call (.Attribute (.Name x p) "append" apos) [e] [] cpos) (liftE c Wx (wAppend i wa)) := PE.imp (fun σ H Q ⟨Av, env, Qa, Xa, g, ⟨⟨s, ds, e1, e2⟩, q⟩, k, x⟩ => by
      obtain ⟨a, vs, e3, av, e4, _⟩ := g.mutAt e1 e2
      refine ⟨_, e3, .inl ⟨rfl, _, .inl (.inl e4)⟩, Av, env, _, Xa, g, q, fun d env1 v Av1 H1 q1 g1 m1 d1 => ?_, x⟩
      obtain ⟨s', ds', f1, f2, f3, q1⟩ := q1
      obtain ⟨a', vs', f4, av', f5, f6, f7⟩ := g1.mutAt f1 f2
      rw [e3] at f4; cases f4
      obtain ⟨g2, m2⟩ := f7 _ _ (f6.append (.cons d1 .nil))
      exact ⟨a, vs', v, rfl, rfl, f5, by rw [f6.length]; exact f3, k _ _ _ Av1 _ q1 g2 (m1.trans m2) .non⟩) (pe_bm PySem.F.plainAttrs_list PySem.F.slot_list_append PySem.F.type_list_append mt_append hp (pa_cons ha pa_nil hs) hbase hfew hline hs hplain)
theorem a_extend (hp : PE X (.Name x p) (tVar i)) (ha : PE X e (liftE c Wx wa))
    (hbase : attributeBase (.Name x p) "extend" X.env (eval (.Name x p) X.env) = eval (.Name x p) X.env := by rfl)
    (hfew : ((backTo cpos (starEach [e] X.env)).all (fun x => !x.1) && (backToKw cpos (keywordEach [] X.env)).all (fun x => x.1.isSome)
      && decide (([e] : List Expr).length + ([] : List Keyword).length + (if ([] : List Keyword).isEmpty then 0 else 1) < 30)) = true := by rfl)
    (hline : (apos.endLine == cpos.line) = true := by rfl) (hs : starEach [e] X.env = (false, eval e X.env) :: starEach [] X.env := by rfl) (hplain : (backTo cpos (starEach [] X.env)).any (·.1) = false := by rfl) :
    PE X (.Call (.Attribute (.Name x p) "extend" apos) [e] [] cpos) (liftE c Wx (wExtend i wa)) := PE.imp (fun σ H Q ⟨Av, env, Qa, Xa, g, ⟨⟨s, ds, e1, e2⟩, q⟩, k, x⟩ => by
      obtain ⟨a, vs, e3, av, e4, _⟩ := g.mutAt e1 e2
      refine ⟨_, e3, .inl ⟨rfl, _, .inl (.inl e4)⟩, Av, env, _, Xa, g, q, fun d env1 v Av1 H1 q1 g1 m1 d1 => ?_, x⟩
      obtain ⟨s', ds', es, f1, f2, rfl, f3, q1⟩ := q1
      obtain ⟨a', vs', f4, av', f5, f6, f7⟩ := g1.mutAt f1 f2
      rw [e3] at f4; cases f4
      cases d1 with
      | lst h na qs =>
        obtain ⟨g2, m2⟩ := f7 _ _ (f6.append qs)
        exact ⟨a, _, vs', _, rfl, rfl, f5, h, by rw [f6.length, qs.length]; exact f3, k _ _ _ Av1 _ q1 g2 (m1.trans m2) .non⟩) (pe_bm PySem.F.plainAttrs_list PySem.F.slot_list_extend PySem.F.type_list_extend mt_extend hp (pa_cons ha pa_nil hs) hbase hfew hline hs hplain)
end

/-! ### list(range(..)) -/
theorem rgV_den {Av : AvS} {H : Hp} : ∀ (n : Nat) (lo : Int), Dens Av H ((List.range n).map fun i => V.int (lo + (i : Nat))) (intsFrom lo n)
  | 0, _ => .nil
  | n + 1, lo => by
    rw [List.range_succ_eq_map, List.map_cons, List.map_map, intsFrom]
    have h := rgV_den (Av := Av) (H := H) n (lo + 1)
    refine .cons (by simpa using Den.int lo) ?_
    have e : ((fun i : Nat => V.int (lo + (i : Nat))) ∘ Nat.succ) = fun i : Nat => V.int (lo + 1 + (i : Nat)) := by
      funext i
      show V.int (lo + ((i + 1 : Nat) : Int)) = V.int (lo + 1 + (i : Int))
      congr 1
      omega
    rw [e]
    exact h
def wLRg1 (wa : AE) (env : Env) (Q : List D → Env → Prop) (X : AX) : Prop := wa env (fun d env' => ∃ n, d = .int n ∧ RgOk 0 n ∧ Q (intsFrom 0 n.toNat) env') X
theorem a_lrg1 {p1 p2 pos2 : Pos} (hc : X.calm = true) (hg : Gl X "list") (hm : X.mg "list" = none) (hg' : Gl X "range") (hm' : X.mg "range" = none) (ha : PE X a (liftE c Wx wa)) (na : starEach [a] X.env = (false, eval a X.env) :: starEach [] X.env := by rfl)
    (na2 : starEach [.Call (.Name "range" p2) [a] [] pos2] X.env = (false, eval (.Call (.Name "range" p2) [a] [] pos2) X.env) :: starEach [] X.env := by rfl) :
    PE X (.Call (.Name "list" p1) [.Call (.Name "range" p2) [a] [] pos2] [] pos) (liftF c Wx (wLRg1 wa)) := PE.imp (fun σ H Q ⟨Av, env, Qa, Xa, g, q, k, x⟩ =>
      ⟨Av, env, _, Xa, g, q, fun d env' v Av' H' q' g' m' d' => by
        obtain ⟨n, rfl, ok, q'⟩ := q'
        cases d'
        refine ⟨n, rfl, ok, fun pp hp => k _ env' pp (add Av' pp) _ q' (g'.fresh hp ?_) (m'.trans (Mono.addNew hp))⟩
        unfold rgV
        rw [Int.sub_zero]
        exact rgV_den n.toNat 0, x⟩) (pe_listRg hc hg hm (prg_1 hg' hm' ha na) na2)

/-! ### dict displays with keys that stand there -/
def wDNew (env : Env) (Q : D → Env → Prop) (_ : AX) : Prop := Q (.dic [] []) env
theorem a_dnew : PE X (.Dict [] [] pos) (liftE c Wx wDNew) := PE.imp (fun σ H Q ⟨Av, env, Qa, Xa, g, q, k, x⟩ p hp =>
  k _ env (.ref p) Av _ q (g.new hp) (Mono.new hp) (.dic (kvs := []) (.inl upd_same) (g.notAv hp) .nil)) pe_dnewK
def wVals : List AE → Env → (List D → Env → Prop) → Prop
  | [], env, Q => Q [] env
  | w :: ws, env, Q => w env (fun d env1 => wVals ws env1 fun ds env2 => Q (d :: ds) env2) X0
def wDic (ks : List Key) (ws : List AE) (env : Env) (Q : D → Env → Prop) (_ : AX) : Prop := (ks.length = ws.length ∧ ks.length ≤ 15 ∧ ks.Nodup) ∧ wVals ws env fun ds env' => Q (.dic ks ds) env'
theorem vals_lift {c' : Cn} {σ : L2.St} : ∀ {ks : List Key} {ws : List AE}, ks.length = ws.length → ∀ {Av : AvS} {env : Env} {H : Hp} {Qa : List D → Env → Prop} {Q : List (V × V) → Hp → Prop}, Good c' Av σ H env → wVals ws env Qa →
    (∀ ds env' vs Av' H', Qa ds env' → Good c' Av' σ H' env' → Mono Av H Av' H' → Dens Av' H' vs ds → vs.length = ks.length → Q ((ks.zip vs).map fun kv => (kV kv.1, kv.2)) H') → tPairs ((ks.zip ws).map fun kw => (tC (kV kw.1), liftEA kw.2)) σ H Q
  | [], [], _, Av, env, H, Qa, Q, g, q, k => k [] env [] Av H q g Mono.refl .nil rfl
  | key :: ks, w :: ws, hl, Av, env, H, Qa, Q, g, q, k => by
    refine ⟨c', Av, env, _, X0, g, q, fun d env1 v Av1 H1 q1 g1 m1 d1 => ?_, ex0⟩
    refine vals_lift (ks := ks) (ws := ws) (by simpa using hl) g1 q1 fun ds env2 vs Av2 H2 q2 g2 m2 d2 hl2 => ?_
    exact k (d :: ds) env2 (v :: vs) Av2 H2 q2 g2 (m1.trans m2) (.cons (d1.mono m2) d2) (by simp [hl2])
  | [], _ :: _, hl, _, _, _, _, _, _, _, _ => by cases hl
  | _ :: _, [], hl, _, _, _, _, _, _, _, _ => by cases hl
theorem putK_new {kvs : List (Key × V)} {k : Key} {v : V} (h : k ∉ kvs.map (·.1)) : putK kvs k v = kvs ++ [(k, v)] := by
  unfold putK
  rw [if_neg]
  intro z
  obtain ⟨q, h1, h2⟩ := List.any_eq_true.mp z
  exact h (List.mem_map.mpr ⟨q, h1, of_decide_eq_true h2⟩)
theorem mergeK_new : ∀ (more kvs : List (Key × V)), (kvs.map (·.1) ++ more.map (·.1)).Nodup → mergeK kvs more = kvs ++ more
  | [], kvs, _ => by simp [mergeK]
  | (k, v) :: r, kvs, h => by
    have hk : k ∉ kvs.map (·.1) := fun z => by
      rw [List.nodup_append] at h
      exact h.2.2 k z k (by simp) rfl
    have e : mergeK kvs ((k, v) :: r) = mergeK (putK kvs k v) r := rfl
    rw [e, putK_new hk, mergeK_new r (kvs ++ [(k, v)]) (by simpa using h)]
    simp
theorem a_dic {keys : List (Option Expr)} {values : List Expr} {ks : List Key} {ws : List AE} (h : PPs X pos keys values ((ks.zip ws).map fun kw => (tC (kV kw.1), liftEA kw.2))) (hall : keys.all (·.isSome) = true) (hl : keys.length = values.length) (h0 : keys ≠ []) (h15 : keys.length ≤ 15) :
    PE X (.Dict keys values pos) (liftE c Wx (wDic ks ws)) := PE.imp (fun σ H Q ⟨Av, env, Qa, Xa, g, ⟨⟨hkl, hk15, hnd⟩, q⟩, k, x⟩ p hp => by
      have f := g.hide (ob := .dK []) hp
      have hv : L2.upd H p (.dK []) p = some (.dK []) := upd_same
      refine vals_lift hkl f.rebase q fun ds env' vs Av' H' q' g' m' d' hlv => ?_
      obtain ⟨u1, u2, u3, u4⟩ := f.unbase hv g' m'
      have f' : Hid c Av' σ H' env' p := ⟨u1, u3, u2, f.n0, f.h0⟩
      have hz1 : (ks.zip vs).map (·.1) = ks := zip_fst hlv.symm
      have hz2 : (ks.zip vs).map (·.2) = vs := zip_snd hlv.symm
      refine ⟨u4, ks.zip vs, rfl, by rw [List.length_zip, hlv, Nat.min_self]; exact hk15, ?_⟩
      rw [mergeK_new _ _ (by rw [List.map_nil, List.nil_append, hz1]; exact hnd), List.nil_append]
      obtain ⟨g2, m2⟩ := f'.show (ob := .dK (ks.zip vs))
      have dd : Den (rem Av' p) (L2.upd H' p (.dK (ks.zip vs))) (.ref p) (.dic ((ks.zip vs).map (·.1)) ds) := .dic (.inl upd_same) (fun z => z.2 rfl) (by rw [hz2]; exact d'.mono m2)
      rw [hz1] at dd
      exact k _ env' (.ref p) _ _ q' g2 (((Mono.addNew hp).trans m').trans m2) dd) (pe_disp h hall hl h0 h15)
theorem pps_one {k v : Expr} {ks : List (Option Expr)} {vs : List Expr} {key : Key} {keys : List Key} {w : AE} {ws : List AE} (hk : PE X k (tC (kV key))) (hv : ∀ c', PE X v (liftE c' W0 w)) (hr : PPs X pos ks vs ((keys.zip ws).map fun kw => (tC (kV kw.1), liftEA kw.2))) :
    PPs X pos (some k :: ks) (v :: vs) (((key :: keys).zip (w :: ws)).map fun kw => (tC (kV kw.1), liftEA kw.2)) := pps_cons hk (PE.allC hv) hr
theorem pps_end : PPs X pos [] [] ((([] : List Key).zip ([] : List AE)).map fun kw => (tC (kV kw.1), liftEA kw.2)) := pps_nil

/-! ### x in a list or tuple of flat values -/
def flatD : D → Option V
  | .non => some .non
  | .bl b => some (.bl b)
  | .int i => some (.int i)
  | .str s => some (.str s)
  | _ => none
def flatsD : List D → Option (List V)
  | [] => some []
  | d :: ds => match flatD d, flatsD ds with
    | some v, some vs => some (v :: vs)
    | _, _ => none
theorem flatD_v {Av : AvS} {H : Hp} {v u : V} {d : D} (h : Den Av H v d) (e : flatD d = some u) : v = u ∧ flatV v = true := by
  cases h <;> cases e <;> exact ⟨rfl, rfl⟩
theorem flatsD_v {Av : AvS} {H : Hp} : ∀ {vs us : List V} {ds : List D}, Dens Av H vs ds → flatsD ds = some us → vs = us ∧ vs.all flatV = true
  | _, _, _, .nil, e => by cases e; exact ⟨rfl, rfl⟩
  | _, _, _, .cons h t, e => by
    unfold flatsD at e
    split at e
    · rename_i v vs e1 e2
      cases e
      obtain ⟨rfl, h1⟩ := flatD_v h e1
      obtain ⟨rfl, h2⟩ := flatsD_v t e2
      exact ⟨rfl, by rw [List.all_cons, h1, h2]; rfl⟩
    · cases e
def inD (neg : Bool) : R2D := fun x y k => ∃ ys u us, (y = .lst ys ∨ y = .tup ys) ∧ flatD x = some u ∧ flatsD ys = some us ∧ k (.bl (if neg then !inV u us else inV u us))
theorem opd_in {K : PySem.W.Frag} {neg : Bool} : OpD (rIn K neg) (inD neg) := by
  intro Av H x y d1 d2 k Q hl h1 h2 ⟨ys, u, us, e1, e2, e3, r⟩ kk
  obtain ⟨rfl, f1⟩ := flatD_v h1 e2
  rcases e1 with rfl | rfl
  · cases h2 with
    | lst h na qs =>
      obtain ⟨rfl, f2⟩ := flatsD_v qs e3
      exact ⟨_, _, rfl, .inl (.inl (.inl h)), f1, f2, kk _ _ H r Grow.refl (.bl _)⟩
  · cases h2 with
    | tup h na qs =>
      obtain ⟨rfl, f2⟩ := flatsD_v qs e3
      exact ⟨_, _, rfl, .inr (.inl h), f1, f2, kk _ _ H r Grow.refl (.bl _)⟩
theorem a_in (ha : PE X a (liftE c Wx wa)) (hb : PE X b (liftE c Wx wb)) (hm : behindInMarks .In b = false := by rfl) : PE X (.Compare a [.In] [b] pos) (liftE c Wx (wOp (inD false) wa wb)) := a_cmp op_in_seq opd_in ha hb hm
theorem t_in (ha : PE X a (liftE c Wx wa)) (hb : PE X b (liftE c Wx wb)) (hm : behindInMarks .In b = false := by rfl) : PT X (.Compare a [.In] [b] pos) (liftT c Wx (wB (wOp (inD false) wa wb))) := t_cmp op_in_seq opd_in ha hb hm
end
end DL
namespace DL
open PySem L2
section
variable {X : Cx} {c : Cn} {Wx : WX} {e a b : Expr} {es : List Expr} {pos p p' : Pos} {x : Str} {w : AA} {we wa wb : AE}
/-- y = [.. for ..] -/
theorem s_setLc {i : Nat} {y : Str} {py : Pos} {elt tg iter : Expr} {ifs : List Expr} {scope : Scope} {own : List (Str × Nat)} {spos : Pos} {wi : AI} {g : TG} {wg : AG} {t : AT} {w : AE} (hc : X.calm = true) (hN : X.N.Nodup) (hy : X.N[i]? = some y) (hyl : X.env.scope.names.lookup y = some .local)
    (hsw : swapsWith (.ListComp elt [⟨tg, iter, ifs, 0⟩] scope pos) (some (.Name y py)) spos.line X.env = pure true) (hi : PI X tg iter (liftI c Wx wi)) (ok : BlkOk X.N X.env.scope scope own)
    (hg : ∀ (s : Shared) (H : Hp) (C : Addr) (cl : List (Str × Addr)) (fp : List Addr), PG (X.blk s H scope (PySem.compEnvC scope cl C X.env) fp) tg g) (hw : ∀ c', GOkV c' g wg (own.map (·.2)))
    (ht : ∀ (s : Shared) (H : Hp) (C : Addr) (cl : List (Str × Addr)) (fp : List Addr) c', PTs (X.blk s H scope (PySem.compEnvC scope cl C X.env) fp) ifs (liftT c' W0 t))
    (he : ∀ (s : Shared) (H : Hp) (C : Addr) (cl : List (Str × Addr)) (fp : List Addr) c', PE (X.blk s H scope (PySem.compEnvC scope cl C X.env) fp) elt (liftE c' W0 w)) (hs : ∀ x, foldedSetIterable iter X.env x = pure x := by intro _; rfl) :
    PS X (.Assign [.Name y py] (.ListComp elt [⟨tg, iter, ifs, 0⟩] scope pos) spos) (liftS c Wx (wSetF i (wLc wi wg t w (own.map (·.2))))) := PS.imp (fun D σ H ⟨Av, env, A, g, q, E⟩ =>
      lc_lift hw σ H _ ⟨Av, env, _, _, g, q, fun ds env' p Av' H' q' f m' => E.nx _ Av' _ H' q' (f.toOwn i) m', E.ex⟩) (ps_setLc hc hN hy hyl hsw hi ok hg (fun s H C cl fp => PTs.allC (ht s H C cl fp)) (fun s H C cl fp => PE.allC (he s H C cl fp)) hs)
/-- - e -/
def wNeg (wa : AE) (env : Env) (Q : D → Env → Prop) (X : AX) : Prop := wa env (fun d env1 => ∃ i, d = .int i ∧ Q (.int (-i)) env1) X
theorem a_neg (ha : PE X a (liftE c Wx wa)) : PE X (.UnaryOp .USub a pos) (liftE c Wx (wNeg wa)) := PE.imp (fun σ H Q ⟨Av, env, Qa, Xa, g, q, k, x⟩ =>
  ⟨Av, env, _, Xa, g, q, fun d env1 v Av1 H1 q1 g1 m1 d1 => by
    obtain ⟨i, rfl, q1⟩ := q1
    cases d1
    exact ⟨i, rfl, k _ env1 _ Av1 H1 q1 g1 m1 (.int _)⟩, x⟩) (pe_un un_neg ha)
end
end DL
set_option Elab.async false
set_option linter.all false
set_option maxRecDepth 100000
set_option maxHeartbeats 4000000
namespace DL
open PySem L2
/-! ### defs of the program, by their names -/
structure DefE (P : Program) (w : World) (K : PySem.W.Frag) (mg : Str → Option Value) (base : Heap) (k : Nat) (x : Str) (ps : List Str) (n : Nat) (mi : Option Nat) (con : Con) : Prop where
  ex : ∃ f fd, FnG P w K mg base k f fd ps (spOf n mi con) ∧ mg x = some (.ref f) ∧ PySem.W.keepIn K (.ref f) = true ∧ Binds K fd ps []
structure DefF (P : Program) (w : World) (K : PySem.W.Frag) (mg : Str → Option Value) (base : Heap) (k : Nat) (x : Str) (ps : List Str) (n : Nat) (mi : Option Nat) (con : ConF) : Prop where
  ex : ∃ f fd, FnG P w K mg base k f fd ps (spOfF n mi con) ∧ mg x = some (.ref f) ∧ PySem.W.keepIn K (.ref f) = true ∧ Binds K fd ps []
/-- what the written part says of a def -/
structure DefT (K : PySem.W.Frag) (mg : Str → Option Value) (x : Str) (st : Stmt) (ps : List Str) : Prop where
  ex : ∃ f fd, Fun K x x st f fd ∧ mg x = some (.ref f) ∧ PySem.W.keepIn K (.ref f) = true ∧ Binds K fd ps []
section
variable {X : Cx} {c : Cn} {Wx : WX} {e a b : Expr} {es : List Expr} {pos p : Pos} {k j n : Nat} {ps : List Str} {x : Str} {mi : Option Nat} {w : AA}
theorem a_callD {con : Con} (h : DefE X.prog X.w X.K X.mg X.base k x ps n mi con) (hr : Room j X.A) (hkj : k ≤ j) (hG : Calm X.A) (hg : Gl X x) (tk : Takes X Wx) (ha : PA X (e :: es) (liftA c Wx w))
    (hdb : (x == ("__debug__" : Str)) = false := by decide) (he : starEach (e :: es) X.env = (false, eval e X.env) :: starEach es X.env := by rfl) (hpl : (backTo pos (starEach es X.env)).any (·.1) = false := by rfl) :
    PE X (.Call (.Name x p) (e :: es) [] pos) (liftE c Wx (wCall n mi con w)) := by
  obtain ⟨f, fd, F, hm, hk, hb⟩ := h.ex
  exact a_call F (hr.mono hkj) hG hg hm hk hb tk ha hdb he hpl
theorem a_callDF {con : ConF} (h : DefF X.prog X.w X.K X.mg X.base k x ps n mi con) (hr : Room j X.A) (hkj : k ≤ j) (hG : Calm X.A) (hg : Gl X x) (tk : Takes X Wx) (ha : PA X (e :: es) (liftA c Wx w))
    (hdb : (x == ("__debug__" : Str)) = false := by decide) (he : starEach (e :: es) X.env = (false, eval e X.env) :: starEach es X.env := by rfl) (hpl : (backTo pos (starEach es X.env)).any (·.1) = false := by rfl) :
    PE X (.Call (.Name x p) (e :: es) [] pos) (liftF c Wx (wCallF n mi con w)) := by
  obtain ⟨f, fd, F, hm, hk, hb⟩ := h.ex
  exact a_callF F (hr.mono hkj) hG hg hm hk hb tk ha hdb he hpl
end
section
variable {P : Program} {w : World} {K : PySem.W.Frag} {mg : Str → Option Value} {base : Heap} {x : Str} {st : Stmt} {N ps : List Str} {k n : Nat} {mi : Option Nat}
theorem def_E {con : Con} (T : DefT K mg x st ps) (S : FnScope N ps (defScope st)) (hn : ps.length = n) (hN : n ≤ N.length)
    (body : ∀ (f : Addr) (cdv : Value) (A : Around) (outer : List PySem.Env) (s : Shared) (H : Hp) (E : XK) (c : Cn), Room k (A.deeper (PyProof.Rows.envOfC x (defScope st) s.heap.objs.size f cdv)) → Calm A →
      ∃ W, PSs (cxOf (L2.CX P w) P w K mg base N x (defScope st) f cdv A outer s H E) (defBody st) (liftS c (fun cls d _ H' => E cls d H') W) ∧
        ∀ a ds m Qd Xd, ds.length = n → (mi = none → m = []) → con ds m Qd Xd → W (env0 N.length mi a m ds) (bodyEnds mi a m Qd Xd)) : DefE P w K mg base (k + 1) x ps n mi con := by
  obtain ⟨f, fd, F, hm, hk, hb⟩ := T.ex
  exact ⟨f, fd, fn_A F S hn hN (body f), hm, hk, hb⟩
theorem def_F {con : ConF} (T : DefT K mg x st ps) (S : FnScope N ps (defScope st)) (hn : ps.length = n) (hN : n ≤ N.length)
    (body : ∀ (f : Addr) (cdv : Value) (A : Around) (outer : List PySem.Env) (s : Shared) (H : Hp) (E : XK) (c : Cn), Room k (A.deeper (PyProof.Rows.envOfC x (defScope st) s.heap.objs.size f cdv)) → Calm A →
      ∃ W, PSs (cxOf (L2.CX P w) P w K mg base N x (defScope st) f cdv A outer s H E) (defBody st) (liftS c (fun cls d _ H' => E cls d H') W) ∧
        ∀ a ds m Qd Xd, ds.length = n → (mi = none → m = []) → con ds m Qd Xd → W (env0 N.length mi a m ds) (bodyEndsF mi a m Qd Xd)) : DefF P w K mg base (k + 1) x ps n mi con := by
  obtain ⟨f, fd, F, hm, hk, hb⟩ := T.ex
  exact ⟨f, fd, fn_AF F S hn hN (body f), hm, hk, hb⟩
/-! ### sizes -/
theorem log2_lt {i : Int} {n : Nat} (h0 : -(2 ^ n) < i) (h1 : i < 2 ^ n) (hn : 0 < n) : i.natAbs.log2 < n := by
  by_cases z : i.natAbs = 0
  · rw [z]; exact hn
  · rw [Nat.log2_lt z]
    have : ((i.natAbs : Nat) : Int) < ((2 ^ n : Nat) : Int) := by
      push_cast
      omega
    exact_mod_cast this
theorem mulW {i j : Int} (n m : Nat) (h0 : -(2 ^ n) < i) (h1 : i < 2 ^ n) (g0 : -(2 ^ m) < j) (g1 : j < 2 ^ m) (hn : 0 < n := by decide) (hm : 0 < m := by decide) (h : n + m ≤ 1000000 := by decide) : CMulW i j := by
  have h2 := log2_lt h0 h1 hn
  have h3 := log2_lt g0 g1 hm
  unfold CMulW
  omega
theorem divW {i j : Int} (m : Nat) (g0 : 0 < j) (g1 : j < 2 ^ m) (hm : 0 < m := by decide) (h : m ≤ 9000 := by decide) : CDivW i j := by
  have h3 := log2_lt (i := j) (n := m) (by
    have : (0 : Int) < 2 ^ m := Int.pow_pos (by decide)
    omega) g1 hm
  exact ⟨g0, by omega⟩
end
end DL
namespace DL
open PySem L2
theorem units1 {k : Nat} {A : Around} (r : Room k A) : A.units + 1 < cLine := by have := r.un; omega
/-- a class of the errors, to be made -/
structure MkE (P : Program) (w : World) (K : PySem.W.Frag) (mg : Str → Option Value) (base : Heap) (k : Nat) (x : Str) (C : Addr) : Prop where
  ex : ∃ fI fd, ErrC K mg x C fI ∧ FnG P w K mg base k fI fd ["self", "value"] (spInitE K) ∧ Binds K fd ["self", "value"] []
section
variable {X : Cx} {c : Cn} {Wx : WX} {e : Expr} {es : List Expr} {pos p : Pos} {k j : Nat} {x : Str} {C : Addr} {w : AA}
theorem a_mkD (h : MkE X.prog X.w X.K X.mg X.base k x C) (hr : Room j X.A) (hkj : k + 1 ≤ j) (hG : Calm X.A) (hg : Gl X x) (ha : PA X (e :: es) (liftA c Wx w))
    (hdb : (x == ("__debug__" : Str)) = false := by decide) (he : starEach (e :: es) X.env = (false, eval e X.env) :: starEach es X.env := by rfl) (hpl : (backTo pos (starEach es X.env)).any (·.1) = false := by rfl) :
    PE X (.Call (.Name x p) (e :: es) [] pos) (liftE c Wx (wMkE C w)) := by
  obtain ⟨fI, fd, T, F, hb⟩ := h.ex
  exact a_mkE T F (hr.mono hkj) hG hb hg ha hdb he hpl
end
/-! ### the pot of digits from which a law draws -/
def Pot (n : Int) (m : List D) : Prop := ∃ x y z, m = [.int x, .int y, .int z] ∧ 0 ≤ x ∧ x < 10 ^ 300 ∧ 0 ≤ y ∧ y < 2 ^ 61 ∧ 0 ≤ z ∧ z ≤ n
def cTake : Con := fun ds m Qd _ => ∃ n upto, ds = [.non, .int upto] ∧ Pot n m ∧ n < 2 ^ 40 ∧ 1 ≤ upto ∧ upto < 2 ^ 30 ∧ ∀ r m', 0 ≤ r → r < upto → Pot (n + 1) m' → Qd (.int r) m'
def cOf : Con := fun ds m Qd _ => ∃ n xs, (ds = [.non, .lst xs] ∨ ds = [.non, .tup xs]) ∧ Pot n m ∧ n < 2 ^ 40 ∧ 1 ≤ xs.length ∧ xs.length < 2 ^ 30 ∧ ∀ d m', d ∈ xs → Pot (n + 1) m' → Qd d m'
def cPlaces (K : PySem.W.Frag) : ConF := fun ds _ Qd _ => ∃ ns most, ds = [.scr K ns, .int most] ∧ 1 ≤ most ∧ most ≤ 2 ^ 20 ∧ ∀ j : Nat, 1 ≤ j → (j : Int) ≤ most → Qd (intsFrom 0 j) []
def cPot (K : PySem.W.Frag) : ConF := fun ds _ Qd _ => ∃ ns k, ds = [.scr K ns, .int k] ∧ 0 ≤ k ∧ k < 2 ^ 20 ∧ ∀ m, Pot 0 m → Qd m []
end DL
namespace DL
open PySem L2
section
variable {α : Type} {x y z : α} {l : List α} {n : Nat}
theorem ixN_at {k : Nat} (h : k < n) : ixN n (k : Int) = some k := by
  unfold ixN
  rw [if_pos (by omega), if_pos (by omega)]
  simp
theorem atI0 : atI (x :: l) 0 = some x := by unfold atI; rw [show ixN (x :: l).length 0 = some 0 from ixN_at (k := 0) (by simp)]; rfl
theorem atI1 : atI (x :: y :: l) 1 = some y := by unfold atI; rw [show ixN (x :: y :: l).length 1 = some 1 from ixN_at (k := 1) (by simp)]; rfl
theorem atI2 : atI (x :: y :: z :: l) 2 = some z := by unfold atI; rw [show ixN (x :: y :: z :: l).length 2 = some 2 from ixN_at (k := 2) (by simp)]; rfl
theorem ixN0 : ixN (n + 1) 0 = some 0 := ixN_at (k := 0) (by omega)
theorem ixN1 : ixN (n + 2) 1 = some 1 := ixN_at (k := 1) (by omega)
theorem ixN2 : ixN (n + 3) 2 = some 2 := ixN_at (k := 2) (by omega)
theorem ix30 : ixN 3 0 = some 0 := ixN_at (n := 3) (k := 0) (by omega)
theorem ix31 : ixN 3 1 = some 1 := ixN_at (n := 3) (k := 1) (by omega)
theorem ix32 : ixN 3 2 = some 2 := ixN_at (n := 3) (k := 2) (by omega)
theorem atI_get {l : List α} {i : Int} (h0 : 0 ≤ i) (h1 : i < l.length) : ∃ x, atI l i = some x ∧ x ∈ l ∧ l[i.toNat]? = some x := by
  have hl : i.toNat < l.length := by omega
  refine ⟨l[i.toNat], ?_, List.getElem_mem hl, List.getElem?_eq_getElem hl⟩
  unfold atI
  rw [show ixN l.length i = some i.toNat from by
    have := ixN_at (n := l.length) (k := i.toNat) hl
    rwa [show ((i.toNat : Nat) : Int) = i by omega] at this]
  exact List.getElem?_eq_getElem hl
end
end DL
namespace DL
open PySem L2
theorem mul_bd {a b A B : Int} (h0 : 0 ≤ a) (h1 : a ≤ A) (h2 : 0 ≤ b) (h3 : b ≤ B) : 0 ≤ a * b ∧ a * b ≤ A * B :=
  ⟨Int.mul_nonneg h0 h2, Int.mul_le_mul h1 h3 h2 (by omega)⟩
theorem bits_le {i : Int} : Builtin.Int.intBits i ≤ i.natAbs.log2 + 1 := by
  unfold Builtin.Int.intBits
  split <;> omega
theorem powG {i : Int} (n : Nat) (j : Nat) (h0 : -(2 ^ n) < i) (h1 : i < 2 ^ n) (hn : 0 < n := by decide) (h : n * j ≤ 2 ^ 27 := by decide) : CPowG i (j : Int) := by
  have h2 := log2_lt h0 h1 hn
  have h3 := bits_le (i := i)
  refine ⟨by omega, ?_⟩
  have h4 : Builtin.Int.intBits i ≤ n := by omega
  have h5 : Builtin.Int.intBits i * j ≤ n * j := Nat.mul_le_mul_right j h4
  have h6 : Builtin.Int.intBits i * j ≤ 2 ^ 27 := Nat.le_trans h5 h
  exact_mod_cast h6
end DL
namespace DL
open PySem L2
theorem potL {c1 c2 c3 n kk : Int} (hk0 : 0 ≤ kk) (hk1 : kk < 2 ^ 20) (h1 : 0 ≤ c1) (h2 : c1 < 2 ^ 20) (h3 : 0 ≤ c2) (h4 : c2 < 2 ^ 20) {Q : List D → List D → Prop} (k : ∀ m, Pot 0 m → Q m []) :
    CPowG 10 60 ∧ CPowG (10 ^ Int.toNat 60) 5 ∧ 0 < ((10 : Int) ^ Int.toNat 60) ^ Int.toNat 5 ∧ CPowG 10 18 ∧
      CMulW ((if n < 0 then -n else n) % (10 ^ Int.toNat 60) ^ Int.toNat 5) (if 10 ^ Int.toNat 18 ≤ if n < 0 then -n else n then 1 else 0) ∧
        (0 : Int) < 2305843009213693951 ∧ CMulW (n % 2305843009213693951) c1 ∧ CMulW c2 kk ∧ CMulW (c2 * kk) kk ∧ (0 : Int) < 2305843009213693921 ∧ 3 ≤ sizeLine ∧
          Q [D.int ((if n < 0 then -n else n) % (10 ^ Int.toNat 60) ^ Int.toNat 5 * if 10 ^ Int.toNat 18 ≤ if n < 0 then -n else n then 1 else 0), D.int ((n % 2305843009213693951 * c1 + c2 * kk * kk + c3) % 2305843009213693921), D.int 0] [] := by
  have e1 : ((10 : Int) ^ Int.toNat 60) ^ Int.toNat 5 = 10 ^ 300 := by decide +kernel
  rw [e1]
  generalize hM : (10 : Int) ^ 300 = M
  have M0 : 0 < M := by rw [← hM]; decide +kernel
  have M1 : M < 2 ^ 1000 := by rw [← hM]; decide +kernel
  generalize (if n < 0 then -n else n) = N
  have r0 : 0 ≤ N % M := Int.emod_nonneg _ (by omega)
  have r1 : N % M < M := Int.emod_lt_of_pos _ M0
  generalize hr : N % M = r at r0 r1
  have s0 : 0 ≤ n % 2305843009213693951 := Int.emod_nonneg _ (by decide)
  have s1 : n % 2305843009213693951 < 2305843009213693951 := Int.emod_lt_of_pos _ (by decide)
  obtain ⟨t0, t1⟩ := mul_bd h3 (Int.le_of_lt h4) hk0 (Int.le_of_lt hk1)
  have p0 : (0 : Int) < 2 ^ 1000 := by decide +kernel
  refine ⟨powG 4 60 (by decide) (by decide), powG 200 5 (by decide +kernel) (by decide +kernel), M0, powG 4 18 (by decide) (by decide), ?_, by decide, mulW 61 20 (by omega) (by omega) (by omega) (by omega), mulW 20 20 (by omega) (by omega) (by omega) (by omega), mulW 41 20 (by omega) (by omega) (by omega) (by omega), by decide, by rw [sizeLine_eq]; decide, ?_⟩
  · split
    · exact mulW 1000 2 (by omega) (by omega) (by decide) (by decide)
    · exact mulW 1000 2 (by omega) (by omega) (by decide) (by decide)
  · refine k _ ⟨_, _, _, rfl, ?_, ?_, Int.emod_nonneg _ (by decide), Int.lt_trans (Int.emod_lt_of_pos _ (by decide)) (by decide), by decide, by decide⟩
    · split <;> omega
    · rw [hM]; split <;> omega
end DL
namespace DL
open PySem L2
/-! ### values that can be shown -/
def Nice (k L : Nat) (d : D) : Prop := ∃ p, d.py = some p ∧ p.showable = true ∧ p.depth ≤ k ∧ p.shown.length ≤ L ∧ PyData.strOk p.shown = true
theorem Nice.mono {k L k' L' : Nat} {d : D} (h : Nice k L d) (h1 : k ≤ k') (h2 : L ≤ L') : Nice k' L' d := let ⟨p, a, b, c, e, f⟩ := h; ⟨p, a, b, by omega, by omega, f⟩
theorem strOk_append {a b : Str} (h1 : PyData.strOk a = true) (h2 : PyData.strOk b = true) : PyData.strOk (a ++ b) = true := by
  unfold PyData.strOk at *
  rw [Str.cps_append, Array.all_append, h1, h2]
  rfl
theorem Nice.tup1 {k L : Nat} {d : D} (h : Nice k L d) : Nice (k + 1) (L + 3) (.tup [d]) := by
  obtain ⟨p, a, b, c, e, f⟩ := h
  have es : (PyData.tuple [p]).shown = Str.ofString "(" ++ p.shown ++ Str.ofString ",)" := by
    simp [PyData.shown, PyData.shownAll, tupleText, Str.join]
  refine ⟨.tuple [p], by simp [D.py, pys, a], by simp [PyData.showable, PyData.showableAll, b], by simp [PyData.depth, PyData.depthAll]; omega, ?_, ?_⟩
  · rw [es, Str.length_append, Str.length_append]
    have h1 : (Str.ofString "(").length = 1 := by decide
    have h2 : (Str.ofString ",)").length = 2 := by decide
    omega
  · rw [es]
    exact strOk_append (strOk_append (by decide +kernel) f) (by decide +kernel)
theorem Nice.lst2 {k L : Nat} {d : D} (h : Nice k L d) : Nice (k + 1) (L + 5) (.lst [d, .int 1]) := by
  obtain ⟨p, a, b, c, e, f⟩ := h
  have es : (PyData.list [p, .int 1]).shown = Str.ofString "[" ++ Str.ofString "" ++ p.shown ++ Str.ofString ", " ++ Str.ofString "1" ++ Str.ofString "]" := by
    simp [PyData.shown, PyData.shownAll, listText, textFrom]
    rfl
  refine ⟨.list [p, .int 1], by simp [D.py, pys, a], (by
    have h1 : Nat.log2 1 < 1920 := by decide
    simp [PyData.showable, PyData.showableAll, b, h1]), by simp [PyData.depth, PyData.depthAll]; omega, ?_, ?_⟩
  · rw [es]
    simp only [Str.length_append]
    have h1 : (Str.ofString "[").length = 1 := by decide
    have h2 : (Str.ofString "").length = 0 := by decide
    have h3 : (Str.ofString ", ").length = 2 := by decide
    have h4 : (Str.ofString "1").length = 1 := by decide
    have h5 : (Str.ofString "]").length = 1 := by decide
    omega
  · rw [es]
    exact strOk_append (strOk_append (strOk_append (strOk_append (strOk_append (by decide +kernel) (by decide +kernel)) f) (by decide +kernel)) (by decide +kernel)) (by decide +kernel)
theorem Nice.dicA {k L : Nat} {d : D} (h : Nice k L d) : Nice (k + 1) (L + 7) (.dic [.inr (Str.ofString "a")] [d]) := by
  obtain ⟨p, a, b, c, e, f⟩ := h
  have es : (PyData.dict [(.str (Str.ofString "a"), p)]).shown = Str.ofString "{" ++ (Str.ofString "'a'" ++ Str.ofString ": " ++ p.shown) ++ Str.ofString "}" := by
    have r : reprText (Str.ofString "a") = Str.ofString "'a'" := by decide +kernel
    simp [PyData.shown, PyData.shownKv, dictText, Str.join, r]
  refine ⟨.dict [(.str (Str.ofString "a"), p)], by simp [D.py, pys, a, keyPy], by simp [PyData.showable, PyData.showableKv, b], by simp [PyData.depth, PyData.depthKv]; omega, ?_, ?_⟩
  · rw [es]
    simp only [Str.length_append]
    have h1 : (Str.ofString "{").length = 1 := by decide
    have h2 : (Str.ofString "'a'").length = 3 := by decide
    have h3 : (Str.ofString ": ").length = 2 := by decide
    have h5 : (Str.ofString "}").length = 1 := by decide
    omega
  · rw [es]
    exact strOk_append (strOk_append (by decide +kernel) (strOk_append (strOk_append (by decide +kernel) (by decide +kernel)) f)) (by decide +kernel)
/-- the call that does not come -/
theorem DefE.never {P : Program} {w : World} {K : PySem.W.Frag} {mg : Str → Option Value} {base : Heap} {x : Str} {st : Stmt} {ps : List Str} {n : Nat} {mi : Option Nat} (T : DefT K mg x st ps) : DefE P w K mg base 0 x ps n mi (fun _ _ _ _ => False) := by
  obtain ⟨f, fd, F, hm, hk, hb⟩ := T.ex
  refine ⟨f, fd, ⟨fun vs H Q E h => ?_, fun A hr hG below s H e0 gs us vs bd r Q E h => ?_⟩, hm, hk, hb⟩
  · obtain ⟨_, _, _, _, _, _, _, _, _, z, _⟩ := h
    exact z.elim
  · obtain ⟨_, _, _, _, _, _, _, _, _, z, _⟩ := h
    exact z.elim
/-! ### isinstance, repr, == by what is known -/
theorem isi_err {K : PySem.W.Frag} {C C' : Addr} {d : D} {b : Bool} {k : D → Prop} (T : ExcC K C) (h : PySem.W.kitOne K (.ref C) (.ref C') = some b) (q : k (.bl b)) : isiD K [.err C d, .atm C'] k := ⟨_, _, b, .err d T, .own C', h, q⟩
theorem isi_errT {K : PySem.W.Frag} {C : Addr} {n : String} {d : D} {b : Bool} {k : D → Prop} (T : ExcC K C) (h : PySem.W.kitOne K (.ref C) (.type n) = some b) (q : k (.bl b)) : isiD K [.err C d, .ty n] k := ⟨_, _, b, .err d T, .ty n, h, q⟩
theorem Nice.repr {n L : Nat} {d : D} (h : Nice n L d) (hn : n ≤ 60) (hL : L ≤ 16777216) : ∃ t : Str, PyData.strOk t = true ∧ ∀ k : D → Prop, k (.str t) → reprD [d] k := by
  obtain ⟨p, a, b, c, e, f⟩ := h
  exact ⟨p.shown, f, fun k q => ⟨p, a, ⟨b, by omega, by rw [sizeLine_eq]; omega⟩, q⟩⟩
theorem eqD_same {neg : Bool} {x : D} {p : PyData} {k : D → Prop} (h : x.py = some p) (hs : SeqAt.shaped p = true) (q : k (.bl (!neg))) : eqD neg x x k := by
  refine ⟨p, p, h, h, by rw [hs]; rfl, ?_⟩
  rw [PySem.SeqAt.eqv_refl p (SeqAt.canLay_of_shaped hs)]
  cases neg <;> exact q
theorem eqD_str {neg : Bool} {t : Str} {k : D → Prop} (h : PyData.strOk t = true) (q : k (.bl (!neg))) : eqD neg (.str t) (.str t) k := eqD_same (p := .str t) rfl (by simp [SeqAt.shaped, PyData.canLay0, PyData.depth, h]) q
theorem eqD_int {neg : Bool} {i j : Int} {k : D → Prop} (q : k (.bl (if neg then !(i == j) else (i == j)))) : eqD neg (.int i) (.int j) k := ⟨.int i, .int j, rfl, rfl, rfl, by simpa [PyData.eqv] using q⟩
theorem pys_bls : ∀ bs : List Bool, pys (bs.map D.bl) = some (bs.map PyData.bool)
  | [] => rfl
  | b :: bs => by rw [List.map_cons, pys, D.py, pys_bls bs]; rfl
theorem depth_bls : ∀ bs : List Bool, PyData.depthAll (bs.map PyData.bool) = 0
  | [] => rfl
  | b :: bs => by rw [List.map_cons, PyData.depthAll, PyData.depth, depth_bls bs]; rfl
theorem lay_bls : ∀ bs : List Bool, PyData.canLayAll0 (bs.map PyData.bool) = true
  | [] => rfl
  | b :: bs => by rw [List.map_cons, PyData.canLayAll0, PyData.canLay0, lay_bls bs]; rfl
theorem eqD_bls {neg : Bool} {bs : List Bool} {k : D → Prop} (q : k (.bl (!neg))) : eqD neg (.lst (bs.map D.bl)) (.lst (bs.map D.bl)) k := by
  refine eqD_same (p := .list (bs.map PyData.bool)) (by rw [D.py, pys_bls]; rfl) ?_ q
  unfold SeqAt.shaped
  rw [PyData.canLay0, lay_bls, PyData.depth, depth_bls]
  rfl
theorem flats_bls : ∀ bs : List Bool, flatsD (bs.map D.bl) = some (bs.map V.bl)
  | [] => rfl
  | b :: bs => by rw [List.map_cons, flatsD, flatD, flats_bls bs]; rfl
end DL
namespace DL
open PySem L2
theorem sz {n : Nat} (h : n ≤ 100000 := by decide) : n ≤ sizeLine := by rw [sizeLine_eq]; omega
def niceB (k L : Nat) (d : D) : Bool := match d.py with
  | some p => p.showable && decide (p.depth ≤ k) && decide (p.shown.length ≤ L) && PyData.strOk p.shown
  | none => false
theorem nice_of {k L : Nat} {d : D} (h : niceB k L d = true) : Nice k L d := by
  unfold niceB at h
  split at h
  · rename_i p e
    simp only [Bool.and_eq_true, decide_eq_true_eq] at h
    exact ⟨p, e, h.1.1.1, h.1.1.2, h.1.2, h.2⟩
  · cases h
theorem nice_all {k L : Nat} {ds : List D} (h : ds.all (niceB k L) = true) {d : D} (hd : d ∈ ds) : Nice k L d := nice_of (List.all_eq_true.mp h d hd)
end DL
namespace DL
open PySem L2
theorem Pot.mono {n n' : Int} {m : List D} (h : Pot n m) (hn : n ≤ n') : Pot n' m := let ⟨x, y, z, e, h0, h1, h2, h3, h4, h5⟩ := h; ⟨x, y, z, e, h0, h1, h2, h3, h4, by omega⟩
end DL
namespace DL
open PySem L2
/-- what a loop's turns must keep -/
def ForB (ds : List D) (Inv : Nat → Env → Prop) (g : AG) (wb : AS) (A : AEnds) : Prop := (∀ (i : Nat) d env', ds[i]? = some d → Inv i env' → g d env' fun env2 => wb env2 { A with nx := Inv (i + 1), ct := Inv (i + 1), bk := A.nx }) ∧ ∀ env', Inv ds.length env' → A.nx env'
theorem wFor_eq {wi : AI} {g : AG} {wb : AS} {env : Env} {A : AEnds} : wFor wi g wb env A = wi env (fun ds env1 => ∃ Inv : Nat → Env → Prop, Inv 0 env1 ∧ ForB ds Inv g wb A) A.ex := rfl
def LcB (ds : List D) (Inv : Nat → List D → Env → Prop) (g : AG) (t : AT) (w : AE) (vs : List Nat) (env1 : Env) (Q : List D → Env → Prop) : Prop :=
  (∀ (i : Nat) d acc env', ds[i]? = some d → Inv i acc env' → g d env' fun env2 => t env2 (fun b env3 => if b = true then w env3 (fun y env4 => acc.length < sizeLine ∧ Inv (i + 1) (acc ++ [y]) (wipeE env4 vs)) X0 else Inv (i + 1) acc (wipeE env3 vs)) X0) ∧
  ∀ acc env', Inv ds.length acc env' → Q acc (restE env1 env' vs)
theorem wLc_eq {wi : AI} {g : AG} {t : AT} {w : AE} {vs : List Nat} {env : Env} {Q : List D → Env → Prop} {X : AX} : wLc wi g t w vs env Q X = wi env (fun ds env1 => vs.all (plainAt env1) = true ∧ ∃ Inv : Nat → List D → Env → Prop, Inv 0 [] (wipeE env1 vs) ∧ LcB ds Inv g t w vs env1 Q) X := rfl
end DL
set_option Elab.async false
set_option linter.all false
set_option maxRecDepth 100000
set_option maxHeartbeats 4000000
namespace DL
open PySem L2 PySem.HandSPX
abbrev veT : List Value := [.type "ValueError", .type "Exception", .type "BaseException", .type "object"]
/-- what the written part says of a class of errors -/
structure ErrF (K : PySem.W.Frag) (x : Str) (C fI : Addr) (bm : List Value) : Prop where
  a : PySem.W.nsIn K mainGlobals x = some (some (.ref C))
  l : ∃ nm q N bs sn sub ab col dd k0 k1 k2 k3 k5, K.lookup C = some (excClassObj nm q C N bs bm true sn sub ab col dd k0 k1 k2 k3 k5 "ValueError.__new__")
  sa : PySem.W.findIn K (.ref C) "__setattr__" = some (some (.builtin "object.__setattr__"))
  ex : PySem.W.subIn K (.ref C) (.type "BaseException") = some true
  ty : PySem.W.typeIn K (.ref C) = some (.type "type")
  kc : PySem.W.keepIn K (.ref C) = true
  nv : PySem.W.findIn K (.ref C) "value" = some none
  ic : PySem.W.findIn K (.ref C) "__init__" = some (some (.ref fI))
  hg : PySem.W.findIn K (.ref C) "__getattribute__" = some (some (.builtin "BaseException.__getattribute__"))
  hk : PySem.W.findIn K (.ref C) "__getattr__" = some none
  hd : PySem.W.hasDictIn K C = true
  ha : PySem.W.findIn K (.ref C) "__class__" = some (some (.builtin "object.__class__"))
  hm : PySem.W.mroIn K C (.type "object") = some true
structure ErrS (K : PySem.W.Frag) (fI : Addr) : Prop where
  ti : PySem.W.typeIn K (.ref fI) = some (.type "function")
  hn : PySem.W.specialIn K (.builtin "object.__class__") "__get__" = some (some (.builtin "getset_descriptor.__get__"))
  ht : PySem.W.takesIn K (.builtin "object.__class__") = some true
section
variable {K : PySem.W.Frag} {h : Heap} {mg : Str → Option Value} {x x' : Str} {C C' fI : Addr} {bm bm' : List Value}
theorem ErrF.mgv (F : ErrF K x C fI bm) (X : K.In h) (G : h.Ns mainGlobals mg) : mg x = some (.ref C) := PySem.W.mg_of X G F.a
theorem ErrF.ec (F : ErrF K x C fI bm) (S : ErrS K fI) : ExcC K C := ⟨F.hg, F.hk, F.ex, F.hd, F.ha, S.hn, S.ht, F.hm⟩
theorem ErrF.errC (F : ErrF K x C fI bm) (S : ErrS K fI) (X : K.In h) (G : h.Ns mainGlobals mg) (hb : refsVE bm = true) : ErrC K mg x C fI := by
  obtain ⟨nm, q, N, bs, sn, sub, ab, col, dd, k0, k1, k2, k3, k5, hC⟩ := F.l
  exact ⟨⟨⟨nm, q, N, bs, bm, sn, sub, ab, col, dd, k0, k1, k2, k3, k5, hC, hb⟩, F.sa, F.ex, F.ty, F.kc⟩, F.nv, F.ic, S.ti, F.mgv X G, F.ec S⟩
theorem ErrF.cls (F : ErrF K x C fI bm) : ∃ cd, PySem.W.clsIn K C = some cd ∧ cd.mro = .ref C :: bm := by
  obtain ⟨nm, q, N, bs, sn, sub, ab, col, dd, k0, k1, k2, k3, k5, hC⟩ := F.l
  refine ⟨_, by unfold PySem.W.clsIn; rw [hC] <;> rfl, rfl⟩
theorem ErrF.sub (F : ErrF K x C fI bm) (b : Value) : PySem.W.subIn K (.ref C) b = some ((Value.ref C :: bm).contains b) := by
  obtain ⟨cd, e1, e2⟩ := F.cls
  show (PySem.W.clsIn K C).bind _ = _
  rw [e1]
  show (if cd.mro.isEmpty = true then none else some (cd.mro.contains b)) = _
  rw [e2]
  rfl
theorem ErrF.kit (F : ErrF K x C fI bm) (F' : ErrF K x' C' fI bm') : PySem.W.kitOne K (.ref C) (.ref C') = some ((Value.ref C :: bm).contains (.ref C')) := by
  unfold PySem.W.kitOne
  by_cases e : (Value.ref C == Value.ref C') = true
  · rw [if_pos e]
    have e' : Value.ref C = Value.ref C' := eq_of_beq e
    cases e'
    simp
  · rw [if_neg e]
    obtain ⟨cd, e1, _⟩ := F'.cls
    unfold PySem.W.kitCls
    have h1 : ((PySem.W.clsIn K C').isSome && PySem.W.typeIn K (.ref C') == some (.type "type")) = true := by rw [e1, F'.ty]; simp
    dsimp only
    rw [if_pos h1, F.sub]
theorem ErrF.kitT (F : ErrF K x C fI bm) (hb : bm.contains (.type "ValueError") = true) : PySem.W.kitOne K (.ref C) (.type "ValueError") = some true := by
  unfold PySem.W.kitOne
  rw [if_neg (by simp)]
  unfold PySem.W.kitCls
  dsimp only
  rw [if_pos (by decide +kernel), F.sub]
  rw [List.contains_cons, hb, Bool.or_true]
end
/-! self.value = value -/
abbrev initPs : List Str := ["self", "value"]
section
variable {P : Program} {w : World} {K : PySem.W.Frag} {mg : Str → Option Value} {base : Heap}
theorem init_ok {st : Stmt} {qual : Str} {p1 p2 p3 p4 : Pos} {f : Addr} {fd : FuncData} (F : Fun K "__init__" qual st f fd) (S : FnScope ["self", "value"] ["self", "value"] (defScope st)) (hs : Loc (defScope st) "self" ∧ Loc (defScope st) "value")
    (hb : defBody st = [.Assign [.Attribute (.Name "self" p1) "value" p2] (.Name "value" p3) p4]) : FnG P w K mg base 1 f fd ["self", "value"] (spInitE K) := by
  refine FnG.body F S (fun vs H Q E h => ?_) (fun cdv A outer s H vs Q E hr hG h => ?_)
  · obtain ⟨a, C, v, rfl, _⟩ := h
    rfl
  · obtain ⟨a, C, v, rfl, hO, hn, ha, k⟩ := h
    rw [hb]
    refine ⟨_, pss_one (ps_ost (pv 0 (hv := hs.1.elim .inl fun z => .inr (.inl z))) (pv 1 (hv := hs.2.elim .inl fun z => .inr (.inl z)))), ?_⟩
    exact ⟨v, rfl, _, rfl, a, C, rfl, hO, hn, .inl ⟨ha, fun dx h1 h2 => k dx h1 h2⟩⟩
end
end DL
set_option Elab.async false
set_option linter.all false
set_option maxRecDepth 100000
set_option maxHeartbeats 4000000
namespace K00
open PySem PySem.Spec PyProof.Rows L2 DL
abbrev prog0 : Program := PySem.Challenge.pw_wallbooks_k00_errors_and_what_they_keep
def top (i : Nat) : Stmt := prog0.main.body.getD i (.Pass ⟨0, 0, 0, 0⟩)
structure Blt (mg : Str → Option Value) : Prop where
  len : mg "len" = none
  abs : mg "abs" = none
  int : mg "int" = none
  max : mg "max" = none
  min : mg "min" = none
  list : mg "list" = none
  range : mg "range" = none
  repr : mg "repr" = none
  isinstance : mg "isinstance" = none
  enumerate : mg "enumerate" = none
  all : mg "all" = none
  ValueError : mg "ValueError" = none
abbrev S_law_take : Stmt := top 34
theorem sc_law_take : FnScope ["pot", "upto", "digit", "prime", "blend"] ["pot", "upto"] (defScope S_law_take) := ⟨rfl, rfl, rfl, by decide +kernel, rfl, by decide +kernel, by decide +kernel⟩
abbrev S_law_pot : Stmt := top 33
theorem sc_law_pot : FnScope ["script", "k", "cell", "own", "small"] ["script", "k"] (defScope S_law_pot) := ⟨rfl, rfl, rfl, by decide +kernel, rfl, by decide +kernel, by decide +kernel⟩
abbrev S_law_of : Stmt := top 35
theorem sc_law_of : FnScope ["pot", "some"] ["pot", "some"] (defScope S_law_of) := ⟨rfl, rfl, rfl, by decide +kernel, rfl, by decide +kernel, by decide +kernel⟩
abbrev S_law_places : Stmt := top 36
theorem sc_law_places : FnScope ["script", "most"] ["script", "most"] (defScope S_law_places) := ⟨rfl, rfl, rfl, by decide +kernel, rfl, by decide +kernel, by decide +kernel⟩
abbrev S_law_odd : Stmt := top 37
theorem sc_law_odd : FnScope ["pot", "some"] ["pot"] (defScope S_law_odd) := ⟨rfl, rfl, rfl, by decide +kernel, rfl, by decide +kernel, by decide +kernel⟩
abbrev S_law_made_of : Stmt := top 38
theorem sc_law_made_of : FnScope ["value", "found"] ["value"] (defScope S_law_made_of) := ⟨rfl, rfl, rfl, by decide +kernel, rfl, by decide +kernel, by decide +kernel⟩
abbrev S_law_marks : Stmt := top 39
theorem sc_law_marks : FnScope ["error", "found"] ["error"] (defScope S_law_marks) := ⟨rfl, rfl, rfl, by decide +kernel, rfl, by decide +kernel, by decide +kernel⟩
abbrev S_law_nested : Stmt := top 40
theorem sc_law_nested : FnScope ["pot", "deep", "way", "inner"] ["pot", "deep"] (defScope S_law_nested) := ⟨rfl, rfl, rfl, by decide +kernel, rfl, by decide +kernel, by decide +kernel⟩
abbrev S_law_right : Stmt := top 41
theorem sc_law_right : FnScope ["pot", "value", "whole", "number", "error", "due", "its"] ["pot"] (defScope S_law_right) := ⟨rfl, rfl, rfl, by decide +kernel, rfl, by decide +kernel, by decide +kernel⟩
abbrev Slaw : Stmt := top 42
theorem sc_law : FnScope ["script", "place", "pot", "lap"] ["script"] (defScope Slaw) := ⟨rfl, rfl, rfl, by decide +kernel, rfl, by decide +kernel, by decide +kernel⟩
def errNames : List Str := ["WallError", "BadBook", "NoClient", "NoKind", "BadRivals", "BadWord", "BadRight", "BadPairs", "BadLot", "BadPair", "OtherBook", "BadStaff", "BadRun", "NotApart", "TooMany", "BadOffers", "BadClients", "BadCases", "NoneFits", "BadRivalry", "NoPerson", "Full", "NoRight", "Rival", "Fenced", "Left", "NothingToUndo", "NothingToRedo", "NoTrial", "BadJournal", "BadLine"]
structure Errs (K : PySem.W.Frag) (mg : Str → Option Value) (cls : Nat → Addr) : Prop where
  mg : ∀ (i : Nat) x, errNames[i]? = some x → mg x = some (.ref (cls i))
  ec : ∀ i, i ≤ 30 → ExcC K (cls i)
  nv : ∀ i, i ≤ 30 → PySem.W.findIn K (.ref (cls i)) "value" = some none
  kit : ∀ i j, i ≤ 30 → j ≤ 30 → PySem.W.kitOne K (.ref (cls i)) (.ref (cls j)) = some (decide (i = j) || decide (j = 0))
  kitV : ∀ i, i ≤ 30 → PySem.W.kitOne K (.ref (cls i)) (.type "ValueError") = some true
def cOdd : Con := fun ds m Qd _ => ∃ n, ds = [.non] ∧ Pot n m ∧ n < 2 ^ 40 ∧ ∀ d m', Nice 3 40 d → Pot (n + 1) m' → Qd d m'
def cNested (deep : Nat) : Con := fun ds m Qd _ => ∃ n, ds = [.non, .int deep] ∧ Pot n m ∧ n + 10 + deep < 2 ^ 40 ∧ ∀ d m', Nice (3 + deep) (40 + 7 * deep) d → Pot (n + deep + 2) m' → Qd d m'
def cMade (cls : Nat → Addr) : Con := fun ds _ Qd _ => ∃ d, ds = [d] ∧ Qd (.lst ((List.range 30).map fun i => .err (cls (i + 1)) d)) []
def cMarks (cls : Nat → Addr) : Con := fun ds _ Qd _ => ∃ i d, ds = [.err (cls i) d] ∧ i ≤ 30 ∧ Qd (.lst (((List.range 30).map fun j => decide (i = j + 1)).map D.bl)) []
def cRight : Con := fun ds m Qd _ => ∃ n, ds = [.non] ∧ Pot n m ∧ n + 20 < 2 ^ 40 ∧ ∀ m', Pot (n + 5) m' → Qd (.bl true) m'
def cLaw (K : PySem.W.Frag) : Con := fun ds _ Qd _ => ∃ ns, ds = [.scr K ns] ∧ Qd (.bl true) []
section
variable {P : Program} {w : World} {K : PySem.W.Frag} {mg : Str → Option Value} {base : Heap}
theorem ok_take (B : Blt mg) (T : DefT K mg "_law_take" S_law_take ["pot", "upto"]) : DefE P w K mg base 1 "_law_take" ["pot", "upto"] 2 (some 0) cTake := by
  refine def_E (k := 0) T sc_law_take rfl (by decide) fun f cdv A outer s H E c hr hG => ⟨_, (s_cons (s_if (t_gt (a_ixM (pv 0) a_int (fun _ _ => rfl)) a_int)
      (s_cons (s_set (i := 2) sc_law_take.nd rfl (by first | exact .inl rfl | exact .inr rfl) (a_mod (a_ct call_int1 calld_int rfl B.int (by decide +kernel) (aa_cons (a_ixM (pv 0) a_int (fun _ _ => rfl)) aa_nil)) (a_var (pv 1))))
      (s_cons (s_setM (pv 0) a_int (a_fdiv (a_ixM (pv 0) a_int (fun _ _ => rfl)) (a_var (pv 1))) (fun _ _ h1 h2 => ps_asg h1 (pg_sub (pv 0) h2 set_list)))
      (s_one (s_ret (a_var (pv 2))))))
      s_nil)
      (s_cons (s_setM (pv 0) a_int (a_add (a_ixM (pv 0) a_int (fun _ _ => rfl)) a_int) (fun _ _ h1 h2 => ps_asg h1 (pg_sub (pv 0) h2 set_list)))
      (s_cons (s_set (i := 3) sc_law_take.nd rfl (by first | exact .inl rfl | exact .inr rfl) (a_ix (units1 hr) (a_fv (a_lst (aa_cons a_int (aa_cons a_int (aa_cons a_int (aa_cons a_int (aa_cons a_int aa_nil))))))) (a_mod (a_ct call_int1 calld_int rfl B.int (by decide +kernel) (aa_cons (a_ixM (pv 0) a_int (fun _ _ => rfl)) aa_nil)) a_int) (fun _ _ => rfl)))
      (s_cons (s_set (i := 4) sc_law_take.nd rfl (by first | exact .inl rfl | exact .inr rfl) (a_mod (a_ct call_int1 calld_int rfl B.int (by decide +kernel) (aa_cons (a_pow (a_ct call_int1 calld_int rfl B.int (by decide +kernel) (aa_cons (a_add (a_add (a_ixM (pv 0) a_int (fun _ _ => rfl)) (a_mul (a_mul a_int (a_ixM (pv 0) a_int (fun _ _ => rfl))) (a_ixM (pv 0) a_int (fun _ _ => rfl)))) a_int) aa_nil)) a_int) aa_nil)) (a_var (pv 3))))
      (s_one (s_ret (a_mod (a_ct call_int1 calld_int rfl B.int (by decide +kernel) (aa_cons (a_fdiv (a_mul (a_var (pv 4)) (a_add (a_mod (a_ct call_int1 calld_int rfl B.int (by decide +kernel) (aa_cons (a_var (pv 4)) aa_nil)) a_int) (a_mul a_int (a_ixM (pv 0) a_int (fun _ _ => rfl))))) a_int) aa_nil)) (a_var (pv 1))))))))), ?_⟩
  rintro a ds m Qd Xd hl hm ⟨n, upto, rfl, ⟨x, y, z, rfl, hx0, hx1, hy0, hy1, hz0, hz1⟩, hn, hu0, hu1, k⟩
  simp only [wSeq, wIf, wB, wOp, wOpF, gtD, ltD, geD, leD, intD0, DL.intD, subD, mulD, fdivD, modD, powD, addD, catD, wIxM, wC, wSet, wSetF, wSetM, wRet, wRetF, wRetN, wVar, wFv, wLst, wTup, wCB, wCBF, wCons, wNil, wRef, wNext, wDrop, wAnd, wOr, wNot, wAndV, wOrV, wNotV, wIfE, wNeg, intC, absD, maxD, minD, lenD, wLenM, atDd, atD, mutOf, setMut, agR, agDs, env0, parm, bodyEnds, bodyEndsF, gN, wAsg, exists_eq_left, exists_eq_left', exists_eq, exists_eq', Option.some.injEq, D.int.injEq, Sl.bor.injEq, Sl.own.injEq, Sl.val.injEq, D.bl.injEq, D.str.injEq, D.lst.injEq, D.tup.injEq, and_true, true_and, exists_const, exists_and_left, exists_and_right, List.getElem?_cons_zero, List.getElem?_cons_succ, List.set_cons_zero, List.set_cons_succ, List.length_cons, List.length_nil, decide_eq_true_eq, if_true, if_false, ite_true, ite_false, List.replicate, List.append_nil, List.nil_append, List.cons_append, List.append_eq, atI0, atI1, atI2, ixN0, ixN1, ixN2, ix30, ix31, ix32, Nat.zero_add, Nat.reduceAdd, Nat.reduceSub, Nat.reduceLeDiff, Option.some.injEq, reduceCtorEq, if_pos, List.replicate_succ, List.replicate_zero, wCall, wCallF, wCon, wConF, wLRg1, agR, agDs, wMkE, wExtend, wAppend, wDic, wDNew, wVals, wValE, Ag.vl.injEq, List.cons.injEq, wFor_eq, wIn, wEnum, wLc_eq, wRange, wYes, gTupD, gConsD, gNilD, List.map_cons, List.map_nil, wipeE]
  split
  · rename_i h
    refine ⟨by omega, divW 30 (by omega) (by omega), k _ _ (Int.emod_nonneg _ (by omega)) (Int.emod_lt_of_pos _ (by omega)) ⟨_, _, _, rfl, Int.ediv_nonneg (by omega) (by omega), ?_, hy0, hy1, hz0, by omega⟩⟩
    exact Int.lt_of_le_of_lt (Int.ediv_le_self _ hx0) hx1
  · rename_i h
    refine ⟨by rw [sizeLine_eq]; decide, by decide, ?_⟩
    have q0 : 0 ≤ (z + 1) % 5 := Int.emod_nonneg _ (by decide)
    have q1 : (z + 1) % 5 < 5 := Int.emod_lt_of_pos _ (by decide)
    obtain ⟨d, e1, e2, _⟩ := atI_get (l := [D.int 2147483647, D.int 2147483629, D.int 2147483587, D.int 2147483579, D.int 2147483563]) q0 (by simpa using q1)
    obtain ⟨p, rfl, p0, p1⟩ : ∃ p, d = D.int p ∧ 0 < p ∧ p < 2 ^ 31 := by
      simp only [List.mem_cons, List.not_mem_nil, or_false] at e2
      rcases e2 with rfl | rfl | rfl | rfl | rfl <;> exact ⟨_, rfl, by decide, by decide⟩
    refine ⟨_, e1, ?_⟩
    have z0 : 0 ≤ z + 1 := by omega
    have z1 : z + 1 ≤ 2 ^ 40 := by omega
    obtain ⟨b0, b1⟩ := mul_bd (a := 95291 * (z + 1)) (b := z + 1) (A := 2 ^ 60) (B := 2 ^ 40) (by omega) (by omega) z0 z1
    refine ⟨mulW 20 41 (by decide) (by decide) (by omega) (by omega), mulW 61 41 (by omega) (by omega) (by omega) (by omega), ?_⟩
    refine ⟨powG 102 3 (by omega) (by omega), ?_⟩
    simp only [wSeq, wIf, wB, wOp, wOpF, gtD, ltD, geD, leD, intD0, DL.intD, subD, mulD, fdivD, modD, powD, addD, catD, wIxM, wC, wSet, wSetF, wSetM, wRet, wRetF, wRetN, wVar, wFv, wLst, wTup, wCB, wCBF, wCons, wNil, wRef, wNext, wDrop, wAnd, wOr, wNot, wAndV, wOrV, wNotV, wIfE, wNeg, intC, absD, maxD, minD, lenD, wLenM, atDd, atD, mutOf, setMut, agR, agDs, env0, parm, bodyEnds, bodyEndsF, gN, wAsg, exists_eq_left, exists_eq_left', exists_eq, exists_eq', Option.some.injEq, D.int.injEq, Sl.bor.injEq, Sl.own.injEq, Sl.val.injEq, D.bl.injEq, D.str.injEq, D.lst.injEq, D.tup.injEq, and_true, true_and, exists_const, exists_and_left, exists_and_right, List.getElem?_cons_zero, List.getElem?_cons_succ, List.set_cons_zero, List.set_cons_succ, List.length_cons, List.length_nil, decide_eq_true_eq, if_true, if_false, ite_true, ite_false, List.replicate, List.append_nil, List.nil_append, List.cons_append, List.append_eq, atI0, atI1, atI2, ixN0, ixN1, ixN2, ix30, ix31, ix32, Nat.zero_add, Nat.reduceAdd, Nat.reduceSub, Nat.reduceLeDiff, Option.some.injEq, reduceCtorEq, if_pos, List.replicate_succ, List.replicate_zero, wCall, wCallF, wCon, wConF, wLRg1, agR, agDs, wMkE, wExtend, wAppend, wDic, wDNew, wVals, wValE, Ag.vl.injEq, List.cons.injEq, wFor_eq, wIn, wEnum, wLc_eq, wRange, wYes, gTupD, gConsD, gNilD, List.map_cons, List.map_nil, wipeE]
    refine ⟨p0, by decide, mulW 7 41 (by decide) (by decide) (by omega) (by omega), ?_⟩
    generalize hg : (y + 95291 * (z + 1) * (z + 1) + 143) ^ Int.toNat 3 % p = g
    have g0 : 0 ≤ g := by rw [← hg]; exact Int.emod_nonneg _ (by omega)
    have g1 : g < p := by rw [← hg]; exact Int.emod_lt_of_pos _ p0
    have g2 : 0 ≤ g % 10069 := Int.emod_nonneg _ (by decide)
    have g3 : g % 10069 < 10069 := Int.emod_lt_of_pos _ (by decide)
    refine ⟨mulW 31 50 (by omega) (by omega) (by omega) (by omega), divW 8 (by decide) (by decide), by omega, ?_⟩
    exact k _ _ (Int.emod_nonneg _ (by omega)) (Int.emod_lt_of_pos _ (by omega)) ⟨_, _, _, rfl, hx0, hx1, hy0, hy1, z0, by omega⟩
theorem ok_pot (B : Blt mg) (T : DefT K mg "_law_pot" S_law_pot ["script", "k"]) : DefF P w K mg base 1 "_law_pot" ["script", "k"] 2 none (cPot K) := by
  refine def_F (k := 0) T sc_law_pot rfl (by decide) fun f cdv A outer s H E c hr hG => ⟨_, (s_cons (s_set (i := 2) sc_law_pot.nd rfl (by first | exact .inl rfl | exact .inr rfl) (a_if (t_lt (a_var (pv 1)) (a_cb call_len calld_len rfl B.len PySem.boot_len (aa_cons (a_var (pv 0)) aa_nil))) (a_ix (units1 hr) (a_var (pv 0)) (a_var (pv 1)) (fun _ _ => rfl)) (a_add (a_mul a_int (a_var (pv 1))) a_int)))
      (s_cons (s_set (i := 3) sc_law_pot.nd rfl (by first | exact .inl rfl | exact .inr rfl) (a_mul (a_mod (a_ct call_int1 calld_int rfl B.int (by decide +kernel) (aa_cons (a_cb call_abs calld_abs rfl B.abs (by decide +kernel) (aa_cons (a_var (pv 2)) aa_nil)) aa_nil)) (a_pow (a_pow a_int a_int) a_int)) (a_ct call_int1 calld_int rfl B.int (by decide +kernel) (aa_cons (a_ge (a_cb call_abs calld_abs rfl B.abs (by decide +kernel) (aa_cons (a_var (pv 2)) aa_nil)) (a_pow a_int a_int)) aa_nil))))
      (s_cons (s_set (i := 4) sc_law_pot.nd rfl (by first | exact .inl rfl | exact .inr rfl) (a_mod (a_ct call_int1 calld_int rfl B.int (by decide +kernel) (aa_cons (a_var (pv 2)) aa_nil)) a_int))
      (s_one (s_retF (a_lst (aa_cons (a_var (pv 3)) (aa_cons (a_mod (a_ct call_int1 calld_int rfl B.int (by decide +kernel) (aa_cons (a_add (a_add (a_mul (a_var (pv 4)) a_int) (a_mul (a_mul a_int (a_var (pv 1))) (a_var (pv 1)))) a_int) aa_nil)) a_int) (aa_cons a_int aa_nil))))))))), ?_⟩
  rintro a ds m Qd Xd hl hm ⟨ns, kk, rfl, hk0, hk1, k⟩
  obtain rfl := hm rfl
  simp only [wSeq, wIf, wB, wOp, wOpF, gtD, ltD, geD, leD, intD0, DL.intD, subD, mulD, fdivD, modD, powD, addD, catD, wIxM, wC, wSet, wSetF, wSetM, wRet, wRetF, wRetN, wVar, wFv, wLst, wTup, wCB, wCBF, wCons, wNil, wRef, wNext, wDrop, wAnd, wOr, wNot, wAndV, wOrV, wNotV, wIfE, wNeg, intC, absD, maxD, minD, lenD, wLenM, atDd, atD, mutOf, setMut, agR, agDs, env0, parm, bodyEnds, bodyEndsF, gN, wAsg, exists_eq_left, exists_eq_left', exists_eq, exists_eq', Option.some.injEq, D.int.injEq, Sl.bor.injEq, Sl.own.injEq, Sl.val.injEq, D.bl.injEq, D.str.injEq, D.lst.injEq, D.tup.injEq, and_true, true_and, exists_const, exists_and_left, exists_and_right, List.getElem?_cons_zero, List.getElem?_cons_succ, List.set_cons_zero, List.set_cons_succ, List.length_cons, List.length_nil, decide_eq_true_eq, if_true, if_false, ite_true, ite_false, List.replicate, List.append_nil, List.nil_append, List.cons_append, List.append_eq, atI0, atI1, atI2, ixN0, ixN1, ixN2, ix30, ix31, ix32, Nat.zero_add, Nat.reduceAdd, Nat.reduceSub, Nat.reduceLeDiff, Option.some.injEq, reduceCtorEq, if_pos, List.replicate_succ, List.replicate_zero, wCall, wCallF, wCon, wConF, wLRg1, agR, agDs, wMkE, wExtend, wAppend, wDic, wDNew, wVals, wValE, Ag.vl.injEq, List.cons.injEq, wFor_eq, wIn, wEnum, wLc_eq, wRange, wYes, gTupD, gConsD, gNilD, List.map_cons, List.map_nil, wipeE]
  refine ⟨rfl, ?_⟩
  split
  · rename_i h
    obtain ⟨n, e1, _, _⟩ := atI_get hk0 h
    exact ⟨rfl, n, e1, potL hk0 hk1 (by decide) (by decide) (by decide) (by decide) k⟩
  · exact ⟨mulW 20 20 (by decide) (by decide) (by omega) (by omega), potL hk0 hk1 (by decide) (by decide) (by decide) (by decide) k⟩
theorem ok_of (B : Blt mg) (T : DefT K mg "_law_of" S_law_of ["pot", "some"]) (D_law_take : DefE P w K mg base 1 "_law_take" ["pot", "upto"] 2 (some 0) cTake) : DefE P w K mg base 2 "_law_of" ["pot", "some"] 2 (some 0) cOf := by
  refine def_E (k := 1) T sc_law_of rfl (by decide) fun f cdv A outer s H E c hr hG => ⟨_, (s_one (s_ret (a_ix (units1 hr) (a_var (pv 1)) (a_callD D_law_take hr (by omega) hG rfl (takes_of rfl rfl rfl rfl) (aa_ref (pv 0) (aa_cons (a_cb call_len calld_len rfl B.len PySem.boot_len (aa_cons (a_var (pv 1)) aa_nil)) aa_nil))) (fun _ _ => rfl)))), ?_⟩
  rintro a ds m Qd Xd hl hm ⟨n, xs, hd, hp, hn, hx0, hx1, k⟩
  rcases hd with rfl | rfl
  all_goals
    simp only [wSeq, wIf, wB, wOp, wOpF, gtD, ltD, geD, leD, intD0, DL.intD, subD, mulD, fdivD, modD, powD, addD, catD, wIxM, wC, wSet, wSetF, wSetM, wRet, wRetF, wRetN, wVar, wFv, wLst, wTup, wCB, wCBF, wCons, wNil, wRef, wNext, wDrop, wAnd, wOr, wNot, wAndV, wOrV, wNotV, wIfE, wNeg, intC, absD, maxD, minD, lenD, wLenM, atDd, atD, mutOf, setMut, agR, agDs, env0, parm, bodyEnds, bodyEndsF, gN, wAsg, exists_eq_left, exists_eq_left', exists_eq, exists_eq', Option.some.injEq, D.int.injEq, Sl.bor.injEq, Sl.own.injEq, Sl.val.injEq, D.bl.injEq, D.str.injEq, D.lst.injEq, D.tup.injEq, and_true, true_and, exists_const, exists_and_left, exists_and_right, List.getElem?_cons_zero, List.getElem?_cons_succ, List.set_cons_zero, List.set_cons_succ, List.length_cons, List.length_nil, decide_eq_true_eq, if_true, if_false, ite_true, ite_false, List.replicate, List.append_nil, List.nil_append, List.cons_append, List.append_eq, atI0, atI1, atI2, ixN0, ixN1, ixN2, ix30, ix31, ix32, Nat.zero_add, Nat.reduceAdd, Nat.reduceSub, Nat.reduceLeDiff, Option.some.injEq, reduceCtorEq, if_pos, List.replicate_succ, List.replicate_zero, wCall, wCallF, wCon, wConF, wLRg1, agR, agDs, wMkE, wExtend, wAppend, wDic, wDNew, wVals, wValE, Ag.vl.injEq, List.cons.injEq, wFor_eq, wIn, wEnum, wLc_eq, wRange, wYes, gTupD, gConsD, gNilD, List.map_cons, List.map_nil, wipeE]
    refine ⟨n, _, rfl, hp, hn, by omega, by omega, fun r m' r0 r1 p' => ?_⟩
    obtain ⟨d, e1, e2, _⟩ := atI_get r0 r1
    exact ⟨d, e1, k d m' e2 p'⟩
theorem ok_places (B : Blt mg) (T : DefT K mg "_law_places" S_law_places ["script", "most"]) : DefF P w K mg base 1 "_law_places" ["script", "most"] 2 none (cPlaces K) := by
  refine def_F (k := 0) T sc_law_places rfl (by decide) fun f cdv A outer s H E c hr hG => ⟨_, (s_one (s_retF (a_lrg1 rfl rfl B.list rfl B.range (a_cb (call_max2 rfl) calld_max2 rfl B.max (by decide +kernel) (aa_cons a_int (aa_cons (a_cb (call_min2 rfl) calld_min2 rfl B.min (by decide +kernel) (aa_cons (a_var (pv 1)) (aa_cons (a_cb call_len calld_len rfl B.len PySem.boot_len (aa_cons (a_var (pv 0)) aa_nil)) aa_nil))) aa_nil)))))), ?_⟩
  rintro a ds m Qd Xd hl hm ⟨ns, most, rfl, hm0, hm1, k⟩
  obtain rfl := hm rfl
  simp only [wSeq, wIf, wB, wOp, wOpF, gtD, ltD, geD, leD, intD0, DL.intD, subD, mulD, fdivD, modD, powD, addD, catD, wIxM, wC, wSet, wSetF, wSetM, wRet, wRetF, wRetN, wVar, wFv, wLst, wTup, wCB, wCBF, wCons, wNil, wRef, wNext, wDrop, wAnd, wOr, wNot, wAndV, wOrV, wNotV, wIfE, wNeg, intC, absD, maxD, minD, lenD, wLenM, atDd, atD, mutOf, setMut, agR, agDs, env0, parm, bodyEnds, bodyEndsF, gN, wAsg, exists_eq_left, exists_eq_left', exists_eq, exists_eq', Option.some.injEq, D.int.injEq, Sl.bor.injEq, Sl.own.injEq, Sl.val.injEq, D.bl.injEq, D.str.injEq, D.lst.injEq, D.tup.injEq, and_true, true_and, exists_const, exists_and_left, exists_and_right, List.getElem?_cons_zero, List.getElem?_cons_succ, List.set_cons_zero, List.set_cons_succ, List.length_cons, List.length_nil, decide_eq_true_eq, if_true, if_false, ite_true, ite_false, List.replicate, List.append_nil, List.nil_append, List.cons_append, List.append_eq, atI0, atI1, atI2, ixN0, ixN1, ixN2, ix30, ix31, ix32, Nat.zero_add, Nat.reduceAdd, Nat.reduceSub, Nat.reduceLeDiff, Option.some.injEq, reduceCtorEq, if_pos, List.replicate_succ, List.replicate_zero, wCall, wCallF, wCon, wConF, wLRg1, agR, agDs, wMkE, wExtend, wAppend, wDic, wDNew, wVals, wValE, Ag.vl.injEq, List.cons.injEq, wFor_eq, wIn, wEnum, wLc_eq, wRange, wYes, gTupD, gConsD, gNilD, List.map_cons, List.map_nil, wipeE]
  refine ⟨rfl, ?_⟩
  generalize hj : (if (if (ns.length : Int) < most then (ns.length : Int) else most) > 1 then if (ns.length : Int) < most then (ns.length : Int) else most else 1) = j
  have j0 : 1 ≤ j := by rw [← hj]; split <;> omega
  have j1 : j ≤ most := by rw [← hj]; (repeat' split) <;> omega
  refine ⟨RgOk.of_le (by decide) (by omega) (by decide) (by omega), ?_⟩
  exact k j.toNat (by omega) (by omega)
theorem ok_odd (B : Blt mg) (T : DefT K mg "_law_odd" S_law_odd ["pot"]) (D_law_of : DefE P w K mg base 2 "_law_of" ["pot", "some"] 2 (some 0) cOf) : DefE P w K mg base 3 "_law_odd" ["pot"] 1 (some 0) cOdd := by
  refine def_E (k := 2) T sc_law_odd rfl (by decide) fun f cdv A outer s H E c hr hG => ⟨_, (s_cons (s_setF (i := 1) sc_law_odd.nd rfl (by first | exact .inl rfl | exact .inr rfl) (a_lst (aa_cons a_non (aa_cons a_bl (aa_cons a_bl (aa_cons a_int (aa_cons a_int (aa_cons (a_neg a_int) (aa_cons a_int (aa_cons a_int (aa_cons a_str (aa_cons a_str (aa_cons a_str (aa_cons (a_tup aa_nil) (aa_cons (a_fv (a_lst aa_nil)) (aa_cons a_dnew (aa_cons (a_tup (aa_cons a_int aa_nil)) (aa_cons (a_tup (aa_cons (a_tup aa_nil) aa_nil)) (aa_cons (a_fv (a_lst (aa_cons a_int aa_nil))) (aa_cons (a_tup (aa_cons a_str aa_nil)) (aa_cons a_str aa_nil)))))))))))))))))))))
      (s_cons (s_setF (i := 1) sc_law_odd.nd rfl (by first | exact .inl rfl | exact .inr rfl) (a_cat (a_var (pv 1)) (a_fv (a_lst (aa_cons (a_dic (pps_one (key := .inr "a") pe_str (fun _ => a_int) pps_end) rfl rfl (by simp) (by decide)) (aa_cons (a_tup (aa_cons a_str (aa_cons a_str aa_nil))) (aa_cons (a_tup (aa_cons a_str (aa_cons a_int aa_nil))) (aa_cons (a_tup (aa_cons (a_tup (aa_cons a_int (aa_cons a_int aa_nil))) aa_nil)) (aa_cons (a_pow a_int a_int) (aa_cons (a_fv (a_lst (aa_cons a_str aa_nil))) (aa_cons (a_tup (aa_cons a_non aa_nil)) (aa_cons a_str (aa_cons a_str (aa_cons (a_tup (aa_cons a_bl (aa_cons a_int aa_nil))) aa_nil))))))))))))))
      (s_one (s_ret (a_callD D_law_of hr (by omega) hG rfl (takes_of rfl rfl rfl rfl) (aa_ref (pv 0) (aa_cons (a_fv (a_cat (a_var (pv 1)) (a_fv (a_lst (aa_cons (a_tup (aa_cons a_str (aa_cons a_str aa_nil))) aa_nil))))) aa_nil))))))), ?_⟩
  rintro a ds m Qd Xd hl hm ⟨n, rfl, hp, hn, k⟩
  simp only [wSeq, wIf, wB, wOp, wOpF, gtD, ltD, geD, leD, intD0, DL.intD, subD, mulD, fdivD, modD, powD, addD, catD, wIxM, wC, wSet, wSetF, wSetM, wRet, wRetF, wRetN, wVar, wFv, wLst, wTup, wCB, wCBF, wCons, wNil, wRef, wNext, wDrop, wAnd, wOr, wNot, wAndV, wOrV, wNotV, wIfE, wNeg, intC, absD, maxD, minD, lenD, wLenM, atDd, atD, mutOf, setMut, agR, agDs, env0, parm, bodyEnds, bodyEndsF, gN, wAsg, exists_eq_left, exists_eq_left', exists_eq, exists_eq', Option.some.injEq, D.int.injEq, Sl.bor.injEq, Sl.own.injEq, Sl.val.injEq, D.bl.injEq, D.str.injEq, D.lst.injEq, D.tup.injEq, and_true, true_and, exists_const, exists_and_left, exists_and_right, List.getElem?_cons_zero, List.getElem?_cons_succ, List.set_cons_zero, List.set_cons_succ, List.length_cons, List.length_nil, decide_eq_true_eq, if_true, if_false, ite_true, ite_false, List.replicate, List.append_nil, List.nil_append, List.cons_append, List.append_eq, atI0, atI1, atI2, ixN0, ixN1, ixN2, ix30, ix31, ix32, Nat.zero_add, Nat.reduceAdd, Nat.reduceSub, Nat.reduceLeDiff, Option.some.injEq, reduceCtorEq, if_pos, List.replicate_succ, List.replicate_zero, wCall, wCallF, wCon, wConF, wLRg1, agR, agDs, wMkE, wExtend, wAppend, wDic, wDNew, wVals, wValE, Ag.vl.injEq, List.cons.injEq, wFor_eq, wIn, wEnum, wLc_eq, wRange, wYes, gTupD, gConsD, gNilD, List.map_cons, List.map_nil, wipeE]
  repeat (refine ⟨sz, ?_⟩)
  refine ⟨by simp, ?_⟩
  repeat (refine ⟨sz, ?_⟩)
  refine ⟨powG 4 8 (by decide) (by decide), ?_⟩
  repeat (refine ⟨sz, ?_⟩)
  exact ⟨n, _, .inl rfl, hp, hn, by decide, by decide, fun d m' hd p' => k d m' (nice_all (by decide +kernel) hd) p'⟩
theorem ok_made {cls : Nat → Addr} (M : ∀ (i : Nat) x, errNames[i]? = some x → MkE P w K mg base 1 x (cls i)) (T : DefT K mg "_law_made_of" S_law_made_of ["value"]) : DefE P w K mg base 3 "_law_made_of" ["value"] 1 none (cMade cls) := by
  refine def_E (k := 2) T sc_law_made_of rfl (by decide) fun f cdv A outer s H E c hr hG => ⟨_, (s_cons (s_setF (i := 1) sc_law_made_of.nd rfl (by first | exact .inl rfl | exact .inr rfl) (a_lst (aa_cons (a_mkD (M 1 _ rfl) hr (by omega) hG rfl (aa_cons (a_var (pv 0)) aa_nil)) (aa_cons (a_mkD (M 2 _ rfl) hr (by omega) hG rfl (aa_cons (a_var (pv 0)) aa_nil)) (aa_cons (a_mkD (M 3 _ rfl) hr (by omega) hG rfl (aa_cons (a_var (pv 0)) aa_nil)) aa_nil)))))
      (s_cons (s_expr (a_extend (pv 1) (a_fv (a_lst (aa_cons (a_mkD (M 4 _ rfl) hr (by omega) hG rfl (aa_cons (a_var (pv 0)) aa_nil)) (aa_cons (a_mkD (M 5 _ rfl) hr (by omega) hG rfl (aa_cons (a_var (pv 0)) aa_nil)) (aa_cons (a_mkD (M 6 _ rfl) hr (by omega) hG rfl (aa_cons (a_var (pv 0)) aa_nil)) aa_nil)))))))
      (s_cons (s_expr (a_extend (pv 1) (a_fv (a_lst (aa_cons (a_mkD (M 7 _ rfl) hr (by omega) hG rfl (aa_cons (a_var (pv 0)) aa_nil)) (aa_cons (a_mkD (M 8 _ rfl) hr (by omega) hG rfl (aa_cons (a_var (pv 0)) aa_nil)) (aa_cons (a_mkD (M 9 _ rfl) hr (by omega) hG rfl (aa_cons (a_var (pv 0)) aa_nil)) aa_nil)))))))
      (s_cons (s_expr (a_extend (pv 1) (a_fv (a_lst (aa_cons (a_mkD (M 10 _ rfl) hr (by omega) hG rfl (aa_cons (a_var (pv 0)) aa_nil)) (aa_cons (a_mkD (M 11 _ rfl) hr (by omega) hG rfl (aa_cons (a_var (pv 0)) aa_nil)) (aa_cons (a_mkD (M 12 _ rfl) hr (by omega) hG rfl (aa_cons (a_var (pv 0)) aa_nil)) aa_nil)))))))
      (s_cons (s_expr (a_extend (pv 1) (a_fv (a_lst (aa_cons (a_mkD (M 13 _ rfl) hr (by omega) hG rfl (aa_cons (a_var (pv 0)) aa_nil)) (aa_cons (a_mkD (M 14 _ rfl) hr (by omega) hG rfl (aa_cons (a_var (pv 0)) aa_nil)) (aa_cons (a_mkD (M 15 _ rfl) hr (by omega) hG rfl (aa_cons (a_var (pv 0)) aa_nil)) aa_nil)))))))
      (s_cons (s_expr (a_extend (pv 1) (a_fv (a_lst (aa_cons (a_mkD (M 16 _ rfl) hr (by omega) hG rfl (aa_cons (a_var (pv 0)) aa_nil)) (aa_cons (a_mkD (M 17 _ rfl) hr (by omega) hG rfl (aa_cons (a_var (pv 0)) aa_nil)) (aa_cons (a_mkD (M 18 _ rfl) hr (by omega) hG rfl (aa_cons (a_var (pv 0)) aa_nil)) aa_nil)))))))
      (s_cons (s_expr (a_extend (pv 1) (a_fv (a_lst (aa_cons (a_mkD (M 19 _ rfl) hr (by omega) hG rfl (aa_cons (a_var (pv 0)) aa_nil)) (aa_cons (a_mkD (M 20 _ rfl) hr (by omega) hG rfl (aa_cons (a_var (pv 0)) aa_nil)) (aa_cons (a_mkD (M 21 _ rfl) hr (by omega) hG rfl (aa_cons (a_var (pv 0)) aa_nil)) aa_nil)))))))
      (s_cons (s_expr (a_extend (pv 1) (a_fv (a_lst (aa_cons (a_mkD (M 22 _ rfl) hr (by omega) hG rfl (aa_cons (a_var (pv 0)) aa_nil)) (aa_cons (a_mkD (M 23 _ rfl) hr (by omega) hG rfl (aa_cons (a_var (pv 0)) aa_nil)) (aa_cons (a_mkD (M 24 _ rfl) hr (by omega) hG rfl (aa_cons (a_var (pv 0)) aa_nil)) aa_nil)))))))
      (s_cons (s_expr (a_extend (pv 1) (a_fv (a_lst (aa_cons (a_mkD (M 25 _ rfl) hr (by omega) hG rfl (aa_cons (a_var (pv 0)) aa_nil)) (aa_cons (a_mkD (M 26 _ rfl) hr (by omega) hG rfl (aa_cons (a_var (pv 0)) aa_nil)) (aa_cons (a_mkD (M 27 _ rfl) hr (by omega) hG rfl (aa_cons (a_var (pv 0)) aa_nil)) aa_nil)))))))
      (s_cons (s_expr (a_extend (pv 1) (a_fv (a_lst (aa_cons (a_mkD (M 28 _ rfl) hr (by omega) hG rfl (aa_cons (a_var (pv 0)) aa_nil)) (aa_cons (a_mkD (M 29 _ rfl) hr (by omega) hG rfl (aa_cons (a_var (pv 0)) aa_nil)) (aa_cons (a_mkD (M 30 _ rfl) hr (by omega) hG rfl (aa_cons (a_var (pv 0)) aa_nil)) aa_nil)))))))
      (s_one (s_ret (a_var (pv 1)))))))))))))), ?_⟩
  rintro a ds m Qd Xd hl hm ⟨d, rfl, k⟩
  obtain rfl := hm rfl
  simp only [wSeq, wIf, wB, wOp, wOpF, gtD, ltD, geD, leD, intD0, DL.intD, subD, mulD, fdivD, modD, powD, addD, catD, wIxM, wC, wSet, wSetF, wSetM, wRet, wRetF, wRetN, wVar, wFv, wLst, wTup, wCB, wCBF, wCons, wNil, wRef, wNext, wDrop, wAnd, wOr, wNot, wAndV, wOrV, wNotV, wIfE, wNeg, intC, absD, maxD, minD, lenD, wLenM, atDd, atD, mutOf, setMut, agR, agDs, env0, parm, bodyEnds, bodyEndsF, gN, wAsg, exists_eq_left, exists_eq_left', exists_eq, exists_eq', Option.some.injEq, D.int.injEq, Sl.bor.injEq, Sl.own.injEq, Sl.val.injEq, D.bl.injEq, D.str.injEq, D.lst.injEq, D.tup.injEq, and_true, true_and, exists_const, exists_and_left, exists_and_right, List.getElem?_cons_zero, List.getElem?_cons_succ, List.set_cons_zero, List.set_cons_succ, List.length_cons, List.length_nil, decide_eq_true_eq, if_true, if_false, ite_true, ite_false, List.replicate, List.append_nil, List.nil_append, List.cons_append, List.append_eq, atI0, atI1, atI2, ixN0, ixN1, ixN2, ix30, ix31, ix32, Nat.zero_add, Nat.reduceAdd, Nat.reduceSub, Nat.reduceLeDiff, Option.some.injEq, reduceCtorEq, if_pos, List.replicate_succ, List.replicate_zero, wCall, wCallF, wCon, wConF, wLRg1, agR, agDs, wMkE, wExtend, wAppend, wDic, wDNew, wVals, wValE, Ag.vl.injEq, List.cons.injEq, wFor_eq, wIn, wEnum, wLc_eq, wRange, wYes, gTupD, gConsD, gNilD, List.map_cons, List.map_nil, wipeE]
  repeat (refine ⟨sz, ?_⟩)
  exact k
theorem ok_marks {cls : Nat → Addr} (B : Blt mg) (X : Errs K mg cls) (T : DefT K mg "_law_marks" S_law_marks ["error"]) : DefE P w K mg base 1 "_law_marks" ["error"] 1 none (cMarks cls) := by
  refine def_E (k := 0) T sc_law_marks rfl (by decide) fun f cdv A outer s H E c hr hG => ⟨_, (s_cons (s_setF (i := 1) sc_law_marks.nd rfl (by first | exact .inl rfl | exact .inr rfl) (a_lst (aa_cons (a_cb (callR_of calli_isi) callD_rC rfl B.isinstance (by decide +kernel) (aa_cons (a_var (pv 0)) (aa_cons (a_globA (pe_glob rfl (X.mg 1 _ rfl) rfl)) aa_nil))) (aa_cons (a_cb (callR_of calli_isi) callD_rC rfl B.isinstance (by decide +kernel) (aa_cons (a_var (pv 0)) (aa_cons (a_globA (pe_glob rfl (X.mg 2 _ rfl) rfl)) aa_nil))) (aa_cons (a_cb (callR_of calli_isi) callD_rC rfl B.isinstance (by decide +kernel) (aa_cons (a_var (pv 0)) (aa_cons (a_globA (pe_glob rfl (X.mg 3 _ rfl) rfl)) aa_nil))) aa_nil)))))
      (s_cons (s_expr (a_extend (pv 1) (a_fv (a_lst (aa_cons (a_cb (callR_of calli_isi) callD_rC rfl B.isinstance (by decide +kernel) (aa_cons (a_var (pv 0)) (aa_cons (a_globA (pe_glob rfl (X.mg 4 _ rfl) rfl)) aa_nil))) (aa_cons (a_cb (callR_of calli_isi) callD_rC rfl B.isinstance (by decide +kernel) (aa_cons (a_var (pv 0)) (aa_cons (a_globA (pe_glob rfl (X.mg 5 _ rfl) rfl)) aa_nil))) (aa_cons (a_cb (callR_of calli_isi) callD_rC rfl B.isinstance (by decide +kernel) (aa_cons (a_var (pv 0)) (aa_cons (a_globA (pe_glob rfl (X.mg 6 _ rfl) rfl)) aa_nil))) aa_nil)))))))
      (s_cons (s_expr (a_extend (pv 1) (a_fv (a_lst (aa_cons (a_cb (callR_of calli_isi) callD_rC rfl B.isinstance (by decide +kernel) (aa_cons (a_var (pv 0)) (aa_cons (a_globA (pe_glob rfl (X.mg 7 _ rfl) rfl)) aa_nil))) (aa_cons (a_cb (callR_of calli_isi) callD_rC rfl B.isinstance (by decide +kernel) (aa_cons (a_var (pv 0)) (aa_cons (a_globA (pe_glob rfl (X.mg 8 _ rfl) rfl)) aa_nil))) (aa_cons (a_cb (callR_of calli_isi) callD_rC rfl B.isinstance (by decide +kernel) (aa_cons (a_var (pv 0)) (aa_cons (a_globA (pe_glob rfl (X.mg 9 _ rfl) rfl)) aa_nil))) aa_nil)))))))
      (s_cons (s_expr (a_extend (pv 1) (a_fv (a_lst (aa_cons (a_cb (callR_of calli_isi) callD_rC rfl B.isinstance (by decide +kernel) (aa_cons (a_var (pv 0)) (aa_cons (a_globA (pe_glob rfl (X.mg 10 _ rfl) rfl)) aa_nil))) (aa_cons (a_cb (callR_of calli_isi) callD_rC rfl B.isinstance (by decide +kernel) (aa_cons (a_var (pv 0)) (aa_cons (a_globA (pe_glob rfl (X.mg 11 _ rfl) rfl)) aa_nil))) (aa_cons (a_cb (callR_of calli_isi) callD_rC rfl B.isinstance (by decide +kernel) (aa_cons (a_var (pv 0)) (aa_cons (a_globA (pe_glob rfl (X.mg 12 _ rfl) rfl)) aa_nil))) aa_nil)))))))
      (s_cons (s_expr (a_extend (pv 1) (a_fv (a_lst (aa_cons (a_cb (callR_of calli_isi) callD_rC rfl B.isinstance (by decide +kernel) (aa_cons (a_var (pv 0)) (aa_cons (a_globA (pe_glob rfl (X.mg 13 _ rfl) rfl)) aa_nil))) (aa_cons (a_cb (callR_of calli_isi) callD_rC rfl B.isinstance (by decide +kernel) (aa_cons (a_var (pv 0)) (aa_cons (a_globA (pe_glob rfl (X.mg 14 _ rfl) rfl)) aa_nil))) (aa_cons (a_cb (callR_of calli_isi) callD_rC rfl B.isinstance (by decide +kernel) (aa_cons (a_var (pv 0)) (aa_cons (a_globA (pe_glob rfl (X.mg 15 _ rfl) rfl)) aa_nil))) aa_nil)))))))
      (s_cons (s_expr (a_extend (pv 1) (a_fv (a_lst (aa_cons (a_cb (callR_of calli_isi) callD_rC rfl B.isinstance (by decide +kernel) (aa_cons (a_var (pv 0)) (aa_cons (a_globA (pe_glob rfl (X.mg 16 _ rfl) rfl)) aa_nil))) (aa_cons (a_cb (callR_of calli_isi) callD_rC rfl B.isinstance (by decide +kernel) (aa_cons (a_var (pv 0)) (aa_cons (a_globA (pe_glob rfl (X.mg 17 _ rfl) rfl)) aa_nil))) (aa_cons (a_cb (callR_of calli_isi) callD_rC rfl B.isinstance (by decide +kernel) (aa_cons (a_var (pv 0)) (aa_cons (a_globA (pe_glob rfl (X.mg 18 _ rfl) rfl)) aa_nil))) aa_nil)))))))
      (s_cons (s_expr (a_extend (pv 1) (a_fv (a_lst (aa_cons (a_cb (callR_of calli_isi) callD_rC rfl B.isinstance (by decide +kernel) (aa_cons (a_var (pv 0)) (aa_cons (a_globA (pe_glob rfl (X.mg 19 _ rfl) rfl)) aa_nil))) (aa_cons (a_cb (callR_of calli_isi) callD_rC rfl B.isinstance (by decide +kernel) (aa_cons (a_var (pv 0)) (aa_cons (a_globA (pe_glob rfl (X.mg 20 _ rfl) rfl)) aa_nil))) (aa_cons (a_cb (callR_of calli_isi) callD_rC rfl B.isinstance (by decide +kernel) (aa_cons (a_var (pv 0)) (aa_cons (a_globA (pe_glob rfl (X.mg 21 _ rfl) rfl)) aa_nil))) aa_nil)))))))
      (s_cons (s_expr (a_extend (pv 1) (a_fv (a_lst (aa_cons (a_cb (callR_of calli_isi) callD_rC rfl B.isinstance (by decide +kernel) (aa_cons (a_var (pv 0)) (aa_cons (a_globA (pe_glob rfl (X.mg 22 _ rfl) rfl)) aa_nil))) (aa_cons (a_cb (callR_of calli_isi) callD_rC rfl B.isinstance (by decide +kernel) (aa_cons (a_var (pv 0)) (aa_cons (a_globA (pe_glob rfl (X.mg 23 _ rfl) rfl)) aa_nil))) (aa_cons (a_cb (callR_of calli_isi) callD_rC rfl B.isinstance (by decide +kernel) (aa_cons (a_var (pv 0)) (aa_cons (a_globA (pe_glob rfl (X.mg 24 _ rfl) rfl)) aa_nil))) aa_nil)))))))
      (s_cons (s_expr (a_extend (pv 1) (a_fv (a_lst (aa_cons (a_cb (callR_of calli_isi) callD_rC rfl B.isinstance (by decide +kernel) (aa_cons (a_var (pv 0)) (aa_cons (a_globA (pe_glob rfl (X.mg 25 _ rfl) rfl)) aa_nil))) (aa_cons (a_cb (callR_of calli_isi) callD_rC rfl B.isinstance (by decide +kernel) (aa_cons (a_var (pv 0)) (aa_cons (a_globA (pe_glob rfl (X.mg 26 _ rfl) rfl)) aa_nil))) (aa_cons (a_cb (callR_of calli_isi) callD_rC rfl B.isinstance (by decide +kernel) (aa_cons (a_var (pv 0)) (aa_cons (a_globA (pe_glob rfl (X.mg 27 _ rfl) rfl)) aa_nil))) aa_nil)))))))
      (s_cons (s_expr (a_extend (pv 1) (a_fv (a_lst (aa_cons (a_cb (callR_of calli_isi) callD_rC rfl B.isinstance (by decide +kernel) (aa_cons (a_var (pv 0)) (aa_cons (a_globA (pe_glob rfl (X.mg 28 _ rfl) rfl)) aa_nil))) (aa_cons (a_cb (callR_of calli_isi) callD_rC rfl B.isinstance (by decide +kernel) (aa_cons (a_var (pv 0)) (aa_cons (a_globA (pe_glob rfl (X.mg 29 _ rfl) rfl)) aa_nil))) (aa_cons (a_cb (callR_of calli_isi) callD_rC rfl B.isinstance (by decide +kernel) (aa_cons (a_var (pv 0)) (aa_cons (a_globA (pe_glob rfl (X.mg 30 _ rfl) rfl)) aa_nil))) aa_nil)))))))
      (s_one (s_ret (a_var (pv 1)))))))))))))), ?_⟩
  rintro a ds m Qd Xd hl hm ⟨i, d, rfl, hi, k⟩
  obtain rfl := hm rfl
  simp only [wSeq, wIf, wB, wOp, wOpF, gtD, ltD, geD, leD, intD0, DL.intD, subD, mulD, fdivD, modD, powD, addD, catD, wIxM, wC, wSet, wSetF, wSetM, wRet, wRetF, wRetN, wVar, wFv, wLst, wTup, wCB, wCBF, wCons, wNil, wRef, wNext, wDrop, wAnd, wOr, wNot, wAndV, wOrV, wNotV, wIfE, wNeg, intC, absD, maxD, minD, lenD, wLenM, atDd, atD, mutOf, setMut, agR, agDs, env0, parm, bodyEnds, bodyEndsF, gN, wAsg, exists_eq_left, exists_eq_left', exists_eq, exists_eq', Option.some.injEq, D.int.injEq, Sl.bor.injEq, Sl.own.injEq, Sl.val.injEq, D.bl.injEq, D.str.injEq, D.lst.injEq, D.tup.injEq, and_true, true_and, exists_const, exists_and_left, exists_and_right, List.getElem?_cons_zero, List.getElem?_cons_succ, List.set_cons_zero, List.set_cons_succ, List.length_cons, List.length_nil, decide_eq_true_eq, if_true, if_false, ite_true, ite_false, List.replicate, List.append_nil, List.nil_append, List.cons_append, List.append_eq, atI0, atI1, atI2, ixN0, ixN1, ixN2, ix30, ix31, ix32, Nat.zero_add, Nat.reduceAdd, Nat.reduceSub, Nat.reduceLeDiff, Option.some.injEq, reduceCtorEq, if_pos, List.replicate_succ, List.replicate_zero, wCall, wCallF, wCon, wConF, wLRg1, agR, agDs, wMkE, wExtend, wAppend, wDic, wDNew, wVals, wValE, Ag.vl.injEq, List.cons.injEq, wFor_eq, wIn, wEnum, wLc_eq, wRange, wYes, gTupD, gConsD, gNilD, List.map_cons, List.map_nil, wipeE]
  repeat (first | refine ⟨sz, ?_⟩ | refine isi_err (X.ec i hi) (X.kit i _ hi (by decide)) ?_)
  simpa [List.range, List.range.loop] using k
theorem ok_nested (B : Blt mg) (hS : SysB base) (T : DefT K mg "_law_nested" S_law_nested ["pot", "deep"]) (D_law_take : DefE P w K mg base 1 "_law_take" ["pot", "upto"] 2 (some 0) cTake) (D_law_odd : DefE P w K mg base 3 "_law_odd" ["pot"] 1 (some 0) cOdd) : ∀ deep : Nat, DefE P w K mg base (4 + deep) "_law_nested" ["pot", "deep"] 2 (some 0) (cNested deep)
  | 0 => by
    have D_law_nested : DefE P w K mg base 0 "_law_nested" ["pot", "deep"] 2 (some 0) _ := DefE.never T
    refine def_E (k := 3) T sc_law_nested rfl (by decide) fun f cdv A outer s H E c hr hG => ⟨_, (s_cons (s_set (i := 2) sc_law_nested.nd rfl (by first | exact .inl rfl | exact .inr rfl) (a_callD D_law_take hr (by omega) hG rfl (takes_of rfl rfl rfl rfl) (aa_ref (pv 0) (aa_cons a_int aa_nil))))
      (s_cons (s_if (t_w (w_or (t_eq hS hr.units (a_var (pv 1)) a_int) (w_or1 (t_lt (a_var (pv 2)) a_int))))
      (s_one (s_ret (a_callD D_law_odd hr (by omega) hG rfl (takes_of rfl rfl rfl rfl) (aa_ref (pv 0) aa_nil))))
      s_nil)
      (s_cons (s_set (i := 3) sc_law_nested.nd rfl (by first | exact .inl rfl | exact .inr rfl) (a_callD D_law_nested hr (by omega) hG rfl (takes_of rfl rfl rfl rfl) (aa_ref (pv 0) (aa_cons (a_sub (a_var (pv 1)) a_int) aa_nil))))
      (s_one (s_ret (a_ix (units1 hr) (a_fv (a_lst (aa_cons (a_tup (aa_cons (a_var (pv 3)) aa_nil)) (aa_cons (a_fv (a_lst (aa_cons (a_var (pv 3)) (aa_cons a_int aa_nil)))) (aa_cons (a_dic (pps_one (key := .inr "a") pe_str (fun _ => (a_var (pv 3))) pps_end) rfl rfl (by simp) (by decide)) aa_nil))))) (a_sub (a_var (pv 2)) a_int) (fun _ _ => rfl))))))), ?_⟩
    rintro a ds m Qd Xd hl hm ⟨n, rfl, hp, hn, k⟩
    simp only [wSeq, wIf, wB, wOp, wOpF, gtD, ltD, geD, leD, intD0, DL.intD, subD, mulD, fdivD, modD, powD, addD, catD, wIxM, wC, wSet, wSetF, wSetM, wRet, wRetF, wRetN, wVar, wFv, wLst, wTup, wCB, wCBF, wCons, wNil, wRef, wNext, wDrop, wAnd, wOr, wNot, wAndV, wOrV, wNotV, wIfE, wNeg, intC, absD, maxD, minD, lenD, wLenM, atDd, atD, mutOf, setMut, agR, agDs, env0, parm, bodyEnds, bodyEndsF, gN, wAsg, exists_eq_left, exists_eq_left', exists_eq, exists_eq', Option.some.injEq, D.int.injEq, Sl.bor.injEq, Sl.own.injEq, Sl.val.injEq, D.bl.injEq, D.str.injEq, D.lst.injEq, D.tup.injEq, and_true, true_and, exists_const, exists_and_left, exists_and_right, List.getElem?_cons_zero, List.getElem?_cons_succ, List.set_cons_zero, List.set_cons_succ, List.length_cons, List.length_nil, decide_eq_true_eq, if_true, if_false, ite_true, ite_false, List.replicate, List.append_nil, List.nil_append, List.cons_append, List.append_eq, atI0, atI1, atI2, ixN0, ixN1, ixN2, ix30, ix31, ix32, Nat.zero_add, Nat.reduceAdd, Nat.reduceSub, Nat.reduceLeDiff, Option.some.injEq, reduceCtorEq, if_pos, List.replicate_succ, List.replicate_zero, wCall, wCallF, wCon, wConF, wLRg1, agR, agDs, wMkE, wExtend, wAppend, wDic, wDNew, wVals, wValE, Ag.vl.injEq, List.cons.injEq, wFor_eq, wIn, wEnum, wLc_eq, wRange, wYes, gTupD, gConsD, gNilD, List.map_cons, List.map_nil, wipeE]
    refine ⟨n, 5, rfl, hp, by omega, by decide, by decide, fun r m' r0 r1 p' => ?_⟩
    refine eqD_int ⟨_, rfl, ?_⟩
    rw [if_pos (by rfl)]
    exact ⟨n + 1, rfl, p', by omega, fun d m'' hd p'' => k d m'' (hd.mono (by omega) (by omega)) (p''.mono (by omega))⟩
  | deep + 1 => by
    have D_law_nested := ok_nested B hS T D_law_take D_law_odd deep
    refine def_E (k := 4 + deep) T sc_law_nested rfl (by decide) fun f cdv A outer s H E c hr hG => ⟨_, (s_cons (s_set (i := 2) sc_law_nested.nd rfl (by first | exact .inl rfl | exact .inr rfl) (a_callD D_law_take hr (by omega) hG rfl (takes_of rfl rfl rfl rfl) (aa_ref (pv 0) (aa_cons a_int aa_nil))))
      (s_cons (s_if (t_w (w_or (t_eq hS hr.units (a_var (pv 1)) a_int) (w_or1 (t_lt (a_var (pv 2)) a_int))))
      (s_one (s_ret (a_callD D_law_odd hr (by omega) hG rfl (takes_of rfl rfl rfl rfl) (aa_ref (pv 0) aa_nil))))
      s_nil)
      (s_cons (s_set (i := 3) sc_law_nested.nd rfl (by first | exact .inl rfl | exact .inr rfl) (a_callD D_law_nested hr (by omega) hG rfl (takes_of rfl rfl rfl rfl) (aa_ref (pv 0) (aa_cons (a_sub (a_var (pv 1)) a_int) aa_nil))))
      (s_one (s_ret (a_ix (units1 hr) (a_fv (a_lst (aa_cons (a_tup (aa_cons (a_var (pv 3)) aa_nil)) (aa_cons (a_fv (a_lst (aa_cons (a_var (pv 3)) (aa_cons a_int aa_nil)))) (aa_cons (a_dic (pps_one (key := .inr "a") pe_str (fun _ => (a_var (pv 3))) pps_end) rfl rfl (by simp) (by decide)) aa_nil))))) (a_sub (a_var (pv 2)) a_int) (fun _ _ => rfl))))))), ?_⟩
    rintro a ds m Qd Xd hl hm ⟨n, rfl, hp, hn, k⟩
    simp only [wSeq, wIf, wB, wOp, wOpF, gtD, ltD, geD, leD, intD0, DL.intD, subD, mulD, fdivD, modD, powD, addD, catD, wIxM, wC, wSet, wSetF, wSetM, wRet, wRetF, wRetN, wVar, wFv, wLst, wTup, wCB, wCBF, wCons, wNil, wRef, wNext, wDrop, wAnd, wOr, wNot, wAndV, wOrV, wNotV, wIfE, wNeg, intC, absD, maxD, minD, lenD, wLenM, atDd, atD, mutOf, setMut, agR, agDs, env0, parm, bodyEnds, bodyEndsF, gN, wAsg, exists_eq_left, exists_eq_left', exists_eq, exists_eq', Option.some.injEq, D.int.injEq, Sl.bor.injEq, Sl.own.injEq, Sl.val.injEq, D.bl.injEq, D.str.injEq, D.lst.injEq, D.tup.injEq, and_true, true_and, exists_const, exists_and_left, exists_and_right, List.getElem?_cons_zero, List.getElem?_cons_succ, List.set_cons_zero, List.set_cons_succ, List.length_cons, List.length_nil, decide_eq_true_eq, if_true, if_false, ite_true, ite_false, List.replicate, List.append_nil, List.nil_append, List.cons_append, List.append_eq, atI0, atI1, atI2, ixN0, ixN1, ixN2, ix30, ix31, ix32, Nat.zero_add, Nat.reduceAdd, Nat.reduceSub, Nat.reduceLeDiff, Option.some.injEq, reduceCtorEq, if_pos, List.replicate_succ, List.replicate_zero, wCall, wCallF, wCon, wConF, wLRg1, agR, agDs, wMkE, wExtend, wAppend, wDic, wDNew, wVals, wValE, Ag.vl.injEq, List.cons.injEq, wFor_eq, wIn, wEnum, wLc_eq, wRange, wYes, gTupD, gConsD, gNilD, List.map_cons, List.map_nil, wipeE]
    refine ⟨n, 5, rfl, hp, by omega, by decide, by decide, fun r m' r0 r1 p' => ?_⟩
    refine eqD_int ⟨_, rfl, ?_⟩
    rw [if_neg (by simp; omega)]
    simp only [wSeq, wIf, wB, wOp, wOpF, gtD, ltD, geD, leD, intD0, DL.intD, subD, mulD, fdivD, modD, powD, addD, catD, wIxM, wC, wSet, wSetF, wSetM, wRet, wRetF, wRetN, wVar, wFv, wLst, wTup, wCB, wCBF, wCons, wNil, wRef, wNext, wDrop, wAnd, wOr, wNot, wAndV, wOrV, wNotV, wIfE, wNeg, intC, absD, maxD, minD, lenD, wLenM, atDd, atD, mutOf, setMut, agR, agDs, env0, parm, bodyEnds, bodyEndsF, gN, wAsg, exists_eq_left, exists_eq_left', exists_eq, exists_eq', Option.some.injEq, D.int.injEq, Sl.bor.injEq, Sl.own.injEq, Sl.val.injEq, D.bl.injEq, D.str.injEq, D.lst.injEq, D.tup.injEq, and_true, true_and, exists_const, exists_and_left, exists_and_right, List.getElem?_cons_zero, List.getElem?_cons_succ, List.set_cons_zero, List.set_cons_succ, List.length_cons, List.length_nil, decide_eq_true_eq, if_true, if_false, ite_true, ite_false, List.replicate, List.append_nil, List.nil_append, List.cons_append, List.append_eq, atI0, atI1, atI2, ixN0, ixN1, ixN2, ix30, ix31, ix32, Nat.zero_add, Nat.reduceAdd, Nat.reduceSub, Nat.reduceLeDiff, Option.some.injEq, reduceCtorEq, if_pos, List.replicate_succ, List.replicate_zero, wCall, wCallF, wCon, wConF, wLRg1, agR, agDs, wMkE, wExtend, wAppend, wDic, wDNew, wVals, wValE, Ag.vl.injEq, List.cons.injEq, wFor_eq, wIn, wEnum, wLc_eq, wRange, wYes, gTupD, gConsD, gNilD, List.map_cons, List.map_nil, wipeE]
    split
    · exact ⟨n + 1, rfl, p', by omega, fun d m'' hd p'' => k d m'' (hd.mono (by omega) (by omega)) (p''.mono (by omega))⟩
    · rename_i h2
      refine ⟨n + 1, by rw [show ((deep + 1 : Nat) : Int) - 1 = (deep : Int) by omega], p', by omega, fun v m'' hv p'' => ?_⟩
      refine ⟨sz, sz, by simp, sz, ?_⟩
      obtain ⟨x, e1, e2, _⟩ := atI_get (l := [D.tup [v], D.lst [v, D.int 1], D.dic [Sum.inr (Str.ofString "a")] [v]]) (i := r - 2) (by omega) (by simp only [List.length_cons, List.length_nil]; omega)
      refine ⟨x, e1, k _ _ ?_ (p''.mono (by omega))⟩
      simp only [List.mem_cons, List.not_mem_nil, or_false] at e2
      rcases e2 with rfl | rfl | rfl
      · exact hv.tup1.mono (by omega) (by omega)
      · exact hv.lst2.mono (by omega) (by omega)
      · exact hv.dicA.mono (by omega) (by omega)
theorem ok_right {cls : Nat → Addr} (B : Blt mg) (hS : SysB base) (X : Errs K mg cls) (M : ∀ (i : Nat) x, errNames[i]? = some x → MkE P w K mg base 1 x (cls i)) (T : DefT K mg "_law_right" S_law_right ["pot"]) (D_law_nested : DefE P w K mg base 7 "_law_nested" ["pot", "deep"] 2 (some 0) (cNested 3))
    (D_law_made_of : DefE P w K mg base 3 "_law_made_of" ["value"] 1 none (cMade cls)) (D_law_marks : DefE P w K mg base 1 "_law_marks" ["error"] 1 none (cMarks cls)) : DefE P w K mg base 8 "_law_right" ["pot"] 1 (some 0) cRight := by
  refine def_E (k := 7) T sc_law_right rfl (by decide) fun f cdv A outer s H E c hr hG => ⟨_, (s_cons (s_set (i := 1) sc_law_right.nd rfl (by first | exact .inl rfl | exact .inr rfl) (a_callD D_law_nested hr (by omega) hG rfl (takes_of rfl rfl rfl rfl) (aa_ref (pv 0) (aa_cons a_int aa_nil))))
      (s_cons (s_set (i := 2) sc_law_right.nd rfl (by first | exact .inl rfl | exact .inr rfl) (a_mkD (M 0 _ rfl) hr (by omega) hG rfl (aa_cons (a_var (pv 1)) aa_nil)))
      (s_cons (s_if (t_w (w_or (t_ne hS hr.units (a_cb (callR_of (calli_repr hS hG hr.units)) callD_rC rfl B.repr (by decide +kernel) (aa_cons (a_valE (a_var (pv 2))) aa_nil)) (a_cb (callR_of (calli_repr hS hG hr.units)) callD_rC rfl B.repr (by decide +kernel) (aa_cons (a_var (pv 1)) aa_nil))) (w_or (t_not (t_val (a_cb (callR_of calli_isi) callD_rC rfl B.isinstance (by decide +kernel) (aa_cons (a_var (pv 2)) (aa_cons (a_globT (pe_bltn (v := .ty "ValueError") (u := .type "ValueError") rfl B.ValueError (by decide +kernel) rfl)) aa_nil))) (fun _ h => pt_val h))) (w_or1 (t_in a_bl (a_callD D_law_marks hr (by omega) hG rfl (takes_of rfl rfl rfl rfl) (aa_cons (a_var (pv 2)) aa_nil)))))))
      (s_one (s_ret a_bl))
      s_nil)
      (s_cons (s_for (passes_of rfl) rfl (i_enum rfl B.enumerate (a_callD D_law_made_of hr (by omega) hG rfl (takes_of rfl rfl rfl rfl) (aa_cons (a_var (pv 1)) aa_nil))) (pg_tup (n := 2) rfl (pgs_cons (pg_name (i := 3) sc_law_right.nd rfl (by first | exact .inl rfl | exact .inr rfl)) (pgs_cons (pg_name (i := 4) sc_law_right.nd rfl (by first | exact .inl rfl | exact .inr rfl)) pgs_nil))) ((gokw_tup (n := 2) (vs := [3, 4]) (gsok_cons (gokw_name (vs := [3, 4]) (by decide)) (gsok_cons (gokw_name (vs := [3, 4]) (by decide)) gsok_nil)))).ok
      (s_cons (s_setLc (i := 5) (own := [("its", 6)]) rfl sc_law_right.nd rfl rfl (sw_true rfl rfl rfl (by decide +kernel)) (i_range1 rfl B.range (aa_cons a_int aa_nil)) (blkOk_by (N := ["pot", "value", "whole", "number", "error", "due", "its"]) (sc := defScope S_law_right) (by decide +kernel)) (fun _ _ _ _ _ => (pg_name (i := 6) sc_law_right.nd rfl (Or.inl rfl))) (fun _ => (GOkW.v (gokw_name (by decide)))) (fun _ _ _ _ _ _ => ts_nil) (fun _ _ _ _ _ _ => (a_eq hS hr.units (a_var (pv 3)) (a_var (pv 6)))))
      (s_one (s_if (t_w (w_or (t_ne hS hr.units (a_cb (callR_of (calli_repr hS hG hr.units)) callD_rC rfl B.repr (by decide +kernel) (aa_cons (a_valE (a_var (pv 4))) aa_nil)) (a_cb (callR_of (calli_repr hS hG hr.units)) callD_rC rfl B.repr (by decide +kernel) (aa_cons (a_var (pv 1)) aa_nil))) (w_or (t_not (t_val (a_cb (callR_of calli_isi) callD_rC rfl B.isinstance (by decide +kernel) (aa_cons (a_var (pv 4)) (aa_cons (a_globA (pe_glob rfl (X.mg 0 _ rfl) rfl)) aa_nil))) (fun _ h => pt_val h))) (w_or1 (t_ne hS hr.units (a_callD D_law_marks hr (by omega) hG rfl (takes_of rfl rfl rfl rfl) (aa_cons (a_var (pv 4)) aa_nil)) (a_var (pv 5)))))))
      (s_one (s_ret a_bl))
      s_nil))))
      (s_one (s_ret a_bl)))))), ?_⟩
  rintro a ds m Qd Xd hl hm ⟨n, rfl, hp, hn, k⟩
  simp only [wSeq, wIf, wB, wOp, wOpF, gtD, ltD, geD, leD, intD0, DL.intD, subD, mulD, fdivD, modD, powD, addD, catD, wIxM, wC, wSet, wSetF, wSetM, wRet, wRetF, wRetN, wVar, wFv, wLst, wTup, wCB, wCBF, wCons, wNil, wRef, wNext, wDrop, wAnd, wOr, wNot, wAndV, wOrV, wNotV, wIfE, wNeg, intC, absD, maxD, minD, lenD, wLenM, atDd, atD, mutOf, setMut, agR, agDs, env0, parm, bodyEnds, bodyEndsF, gN, wAsg, exists_eq_left, exists_eq_left', exists_eq, exists_eq', Option.some.injEq, D.int.injEq, Sl.bor.injEq, Sl.own.injEq, Sl.val.injEq, D.bl.injEq, D.str.injEq, D.lst.injEq, D.tup.injEq, and_true, true_and, exists_const, exists_and_left, exists_and_right, List.getElem?_cons_zero, List.getElem?_cons_succ, List.set_cons_zero, List.set_cons_succ, List.length_cons, List.length_nil, decide_eq_true_eq, if_true, if_false, ite_true, ite_false, List.replicate, List.append_nil, List.nil_append, List.cons_append, List.append_eq, atI0, atI1, atI2, ixN0, ixN1, ixN2, ix30, ix31, ix32, Nat.zero_add, Nat.reduceAdd, Nat.reduceSub, Nat.reduceLeDiff, Option.some.injEq, reduceCtorEq, if_pos, List.replicate_succ, List.replicate_zero, wCall, wCallF, wCon, wConF, wLRg1, agR, agDs, wMkE, wExtend, wAppend, wDic, wDNew, wVals, wValE, Ag.vl.injEq, List.cons.injEq, wFor_eq, wIn, wEnum, wLc_eq, wRange, wYes, gTupD, gConsD, gNilD, List.map_cons, List.map_nil, wipeE]
  refine ⟨n, rfl, hp, by omega, fun v m' hv p' => ?_⟩
  obtain ⟨t, ht, hrep⟩ := hv.repr (by decide) (by decide)
  refine ⟨_, _, rfl, ⟨X.ec 0 (by decide), X.nv 0 (by decide)⟩, hrep _ (hrep _ (eqD_str ht ⟨_, rfl, ?_⟩))⟩
  rw [if_neg (by decide)]
  refine isi_errT (X.ec 0 (by decide)) (X.kitV 0 (by decide)) ⟨_, rfl, ?_⟩
  rw [if_neg (by decide)]
  refine ⟨0, v, rfl, by decide, ?_⟩
  refine ⟨_, _, _, .inl rfl, rfl, flats_bls _, _, rfl, ?_⟩
  rw [if_neg (by decide +kernel)]
  refine ⟨v, rfl, _, rfl, fun _ env' => ∃ s3 s4 s5, env' = [.bor a m', .val v, .val (.err (cls 0) v), s3, s4, s5, .un], ⟨_, _, _, rfl⟩, And.intro ?_ ?_⟩
  · rintro i d env' hd ⟨s3, s4, s5, rfl⟩
    obtain ⟨y, h1, rfl⟩ := enumD_get 0 _ i d hd
    obtain ⟨hi, rfl⟩ : i < 30 ∧ y = .err (cls (i + 1)) v := by
      rw [List.getElem?_map] at h1
      by_cases hi : i < 30
      · rw [List.getElem?_range hi] at h1
        cases h1
        exact ⟨hi, rfl⟩
      · rw [List.getElem?_eq_none (by simpa using hi)] at h1
        cases h1
    simp only [wSeq, wIf, wB, wOp, wOpF, gtD, ltD, geD, leD, intD0, DL.intD, subD, mulD, fdivD, modD, powD, addD, catD, wIxM, wC, wSet, wSetF, wSetM, wRet, wRetF, wRetN, wVar, wFv, wLst, wTup, wCB, wCBF, wCons, wNil, wRef, wNext, wDrop, wAnd, wOr, wNot, wAndV, wOrV, wNotV, wIfE, wNeg, intC, absD, maxD, minD, lenD, wLenM, atDd, atD, mutOf, setMut, agR, agDs, env0, parm, bodyEnds, bodyEndsF, gN, wAsg, exists_eq_left, exists_eq_left', exists_eq, exists_eq', Option.some.injEq, D.int.injEq, Sl.bor.injEq, Sl.own.injEq, Sl.val.injEq, D.bl.injEq, D.str.injEq, D.lst.injEq, D.tup.injEq, and_true, true_and, exists_const, exists_and_left, exists_and_right, List.getElem?_cons_zero, List.getElem?_cons_succ, List.set_cons_zero, List.set_cons_succ, List.length_cons, List.length_nil, decide_eq_true_eq, if_true, if_false, ite_true, ite_false, List.replicate, List.append_nil, List.nil_append, List.cons_append, List.append_eq, atI0, atI1, atI2, ixN0, ixN1, ixN2, ix30, ix31, ix32, Nat.zero_add, Nat.reduceAdd, Nat.reduceSub, Nat.reduceLeDiff, Option.some.injEq, reduceCtorEq, if_pos, List.replicate_succ, List.replicate_zero, wCall, wCallF, wCon, wConF, wLRg1, agR, agDs, wMkE, wExtend, wAppend, wDic, wDNew, wVals, wValE, Ag.vl.injEq, List.cons.injEq, wFor_eq, wIn, wEnum, wLc_eq, wRange, wYes, gTupD, gConsD, gNilD, List.map_cons, List.map_nil, wipeE, and_assoc]
    refine ⟨by decide, by decide, rfl, fun j acc env' => acc = (List.range j).map (fun t => D.bl (decide (i = t))) ∧ env' = [.bor a m', .val v, .val (.err (cls 0) v), .val (.int (i : Int)), .val (.err (cls (i + 1)) v), s5, .un], ⟨rfl, rfl⟩, And.intro ?_ ?_⟩
    · rintro j d acc env' hd' ⟨rfl, rfl⟩
      obtain ⟨hj, rfl⟩ := intsFrom_get _ _ _ _ hd'
      simp only [wSeq, wIf, wB, wOp, wOpF, gtD, ltD, geD, leD, intD0, DL.intD, subD, mulD, fdivD, modD, powD, addD, catD, wIxM, wC, wSet, wSetF, wSetM, wRet, wRetF, wRetN, wVar, wFv, wLst, wTup, wCB, wCBF, wCons, wNil, wRef, wNext, wDrop, wAnd, wOr, wNot, wAndV, wOrV, wNotV, wIfE, wNeg, intC, absD, maxD, minD, lenD, wLenM, atDd, atD, mutOf, setMut, agR, agDs, env0, parm, bodyEnds, bodyEndsF, gN, wAsg, exists_eq_left, exists_eq_left', exists_eq, exists_eq', Option.some.injEq, D.int.injEq, Sl.bor.injEq, Sl.own.injEq, Sl.val.injEq, D.bl.injEq, D.str.injEq, D.lst.injEq, D.tup.injEq, and_true, true_and, exists_const, exists_and_left, exists_and_right, List.getElem?_cons_zero, List.getElem?_cons_succ, List.set_cons_zero, List.set_cons_succ, List.length_cons, List.length_nil, decide_eq_true_eq, if_true, if_false, ite_true, ite_false, List.replicate, List.append_nil, List.nil_append, List.cons_append, List.append_eq, atI0, atI1, atI2, ixN0, ixN1, ixN2, ix30, ix31, ix32, Nat.zero_add, Nat.reduceAdd, Nat.reduceSub, Nat.reduceLeDiff, Option.some.injEq, reduceCtorEq, if_pos, List.replicate_succ, List.replicate_zero, wCall, wCallF, wCon, wConF, wLRg1, agR, agDs, wMkE, wExtend, wAppend, wDic, wDNew, wVals, wValE, Ag.vl.injEq, List.cons.injEq, wFor_eq, wIn, wEnum, wLc_eq, wRange, wYes, gTupD, gConsD, gNilD, List.map_cons, List.map_nil, wipeE]
      refine eqD_int ⟨by rw [List.length_map, List.length_range]; exact Nat.lt_of_lt_of_le (show j < 100000 by have h30 : j < 30 := hj; omega) sz, ?_⟩
      rw [List.range_succ, List.map_append]
      congr 2
      by_cases hij : i = j
      · subst hij; simp
      · simp [hij]; omega
    · rintro acc env' ⟨rfl, rfl⟩
      simp only [wSeq, wIf, wB, wOp, wOpF, gtD, ltD, geD, leD, intD0, DL.intD, subD, mulD, fdivD, modD, powD, addD, catD, wIxM, wC, wSet, wSetF, wSetM, wRet, wRetF, wRetN, wVar, wFv, wLst, wTup, wCB, wCBF, wCons, wNil, wRef, wNext, wDrop, wAnd, wOr, wNot, wAndV, wOrV, wNotV, wIfE, wNeg, intC, absD, maxD, minD, lenD, wLenM, atDd, atD, mutOf, setMut, agR, agDs, env0, parm, bodyEnds, bodyEndsF, gN, wAsg, exists_eq_left, exists_eq_left', exists_eq, exists_eq', Option.some.injEq, D.int.injEq, Sl.bor.injEq, Sl.own.injEq, Sl.val.injEq, D.bl.injEq, D.str.injEq, D.lst.injEq, D.tup.injEq, and_true, true_and, exists_const, exists_and_left, exists_and_right, List.getElem?_cons_zero, List.getElem?_cons_succ, List.set_cons_zero, List.set_cons_succ, List.length_cons, List.length_nil, decide_eq_true_eq, if_true, if_false, ite_true, ite_false, List.replicate, List.append_nil, List.nil_append, List.cons_append, List.append_eq, atI0, atI1, atI2, ixN0, ixN1, ixN2, ix30, ix31, ix32, Nat.zero_add, Nat.reduceAdd, Nat.reduceSub, Nat.reduceLeDiff, Option.some.injEq, reduceCtorEq, if_pos, List.replicate_succ, List.replicate_zero, wCall, wCallF, wCon, wConF, wLRg1, agR, agDs, wMkE, wExtend, wAppend, wDic, wDNew, wVals, wValE, Ag.vl.injEq, List.cons.injEq, wFor_eq, wIn, wEnum, wLc_eq, wRange, wYes, gTupD, gConsD, gNilD, List.map_cons, List.map_nil, wipeE, restE, List.getD, Option.getD]
      refine ⟨_, _, rfl, X.ec (i + 1) (by omega), X.nv (i + 1) (by omega), hrep _ (hrep _ (eqD_str ht ⟨_, rfl, ?_⟩))⟩
      rw [if_neg (by decide)]
      refine isi_err (X.ec (i + 1) (by omega)) (X.kit (i + 1) 0 (by omega) (by decide)) ⟨_, rfl, ?_⟩
      rw [if_neg (by simp)]
      refine ⟨i + 1, v, rfl, by omega, ?_⟩
      have e : (List.range (DL.intsFrom 0 (Int.toNat 30)).length).map (fun t => D.bl (decide (i = t))) = ((List.range 30).map fun j => decide (i + 1 = j + 1)).map D.bl := by
        rw [intsFrom_len, List.map_map]
        exact List.map_congr_left fun t _ => by simp
      rw [e]
      refine eqD_bls ⟨_, rfl, ?_⟩
      rw [if_neg (by decide)]
      trivial
  · rintro env' ⟨s3, s4, s5, rfl⟩
    exact ⟨m', rfl, k m' (p'.mono (by omega))⟩
theorem ok_law (B : Blt mg) {f : Addr} {fd : FuncData} (T : Fun K "law" "law" Slaw f fd) (D_law_places : DefF P w K mg base 1 "_law_places" ["script", "most"] 2 none (cPlaces K)) (D_law_pot : DefF P w K mg base 1 "_law_pot" ["script", "k"] 2 none (cPot K))
    (D_law_right : DefE P w K mg base 8 "_law_right" ["pot"] 1 (some 0) cRight) : FnG P w K mg base 9 f fd ["script"] (spOf 1 none (cLaw K)) := by
  refine fn_A (k := 8) T sc_law rfl (by decide) fun cdv A outer s H E c hr hG => ⟨_, (s_cons (s_for (passes_of rfl) rfl (i_in (a_fv (a_callDF D_law_places hr (by omega) hG rfl (takes_of rfl rfl rfl rfl) (aa_cons (a_var (pv 0)) (aa_cons a_int aa_nil))))) (pg_name (i := 1) sc_law.nd rfl (by first | exact .inl rfl | exact .inr rfl)) gok_name
      (s_cons (s_setF (i := 2) sc_law.nd rfl (by first | exact .inl rfl | exact .inr rfl) (a_callDF D_law_pot hr (by omega) hG rfl (takes_of rfl rfl rfl rfl) (aa_cons (a_var (pv 0)) (aa_cons (a_var (pv 1)) aa_nil))))
      (s_one (s_if (t_not (t_val (a_cb (cr_all rfl) calld_all rfl B.all (by decide +kernel) (aa_cons (a_fv (a_lc (own := [("lap", 3)]) rfl sc_law.nd (i_range1 rfl B.range (aa_cons a_int aa_nil)) (blkOk_by (N := ["script", "place", "pot", "lap"]) (sc := defScope Slaw) (by decide +kernel)) (fun _ _ _ _ _ => (pg_name (i := 3) sc_law.nd rfl (Or.inl rfl))) (fun _ => (GOkW.v (gokw_name (by decide)))) (fun _ _ _ _ _ _ => ts_nil) (fun _ _ _ _ _ _ => (a_callD D_law_right hr (by omega) hG rfl takes0 (aa_ref (pv 2) aa_nil))))) aa_nil)) (fun _ h => pt_val h)))
      (s_one (s_ret a_bl))
      s_nil))))
      (s_one (s_ret a_bl))), ?_⟩
  rintro a ds m Qd Xd hl hm ⟨ns, rfl, k⟩
  obtain rfl := hm rfl
  simp only [wSeq, wIf, wB, wOp, wOpF, gtD, ltD, geD, leD, intD0, DL.intD, subD, mulD, fdivD, modD, powD, addD, catD, wIxM, wC, wSet, wSetF, wSetM, wRet, wRetF, wRetN, wVar, wFv, wLst, wTup, wCB, wCBF, wCons, wNil, wRef, wNext, wDrop, wAnd, wOr, wNot, wAndV, wOrV, wNotV, wIfE, wNeg, intC, absD, maxD, minD, lenD, wLenM, atDd, atD, mutOf, setMut, agR, agDs, env0, parm, bodyEnds, bodyEndsF, gN, wAsg, exists_eq_left, exists_eq_left', exists_eq, exists_eq', Option.some.injEq, D.int.injEq, Sl.bor.injEq, Sl.own.injEq, Sl.val.injEq, D.bl.injEq, D.str.injEq, D.lst.injEq, D.tup.injEq, and_true, true_and, exists_const, exists_and_left, exists_and_right, List.getElem?_cons_zero, List.getElem?_cons_succ, List.set_cons_zero, List.set_cons_succ, List.length_cons, List.length_nil, decide_eq_true_eq, if_true, if_false, ite_true, ite_false, List.replicate, List.append_nil, List.nil_append, List.cons_append, List.append_eq, atI0, atI1, atI2, ixN0, ixN1, ixN2, ix30, ix31, ix32, Nat.zero_add, Nat.reduceAdd, Nat.reduceSub, Nat.reduceLeDiff, Option.some.injEq, reduceCtorEq, if_pos, List.replicate_succ, List.replicate_zero, wCall, wCallF, wCon, wConF, wLRg1, agR, agDs, wMkE, wExtend, wAppend, wDic, wDNew, wVals, wValE, Ag.vl.injEq, List.cons.injEq, wFor_eq, wIn, wEnum, wLc_eq, wRange, wYes, gTupD, gConsD, gNilD, List.map_cons, List.map_nil, wipeE]
  refine ⟨ns, 4, rfl, by decide, by decide, fun j hj1 hj2 => ⟨fun _ env' => ∃ s1 s2, env' = [.val (.scr K ns), s1, s2, .un], ⟨_, _, rfl⟩, And.intro ?_ ?_⟩⟩
  · rintro i d env' hd ⟨s1, s2, rfl⟩
    obtain ⟨hi, rfl⟩ := intsFrom_get _ _ _ _ hd
    simp only [wSeq, wIf, wB, wOp, wOpF, gtD, ltD, geD, leD, intD0, DL.intD, subD, mulD, fdivD, modD, powD, addD, catD, wIxM, wC, wSet, wSetF, wSetM, wRet, wRetF, wRetN, wVar, wFv, wLst, wTup, wCB, wCBF, wCons, wNil, wRef, wNext, wDrop, wAnd, wOr, wNot, wAndV, wOrV, wNotV, wIfE, wNeg, intC, absD, maxD, minD, lenD, wLenM, atDd, atD, mutOf, setMut, agR, agDs, env0, parm, bodyEnds, bodyEndsF, gN, wAsg, exists_eq_left, exists_eq_left', exists_eq, exists_eq', Option.some.injEq, D.int.injEq, Sl.bor.injEq, Sl.own.injEq, Sl.val.injEq, D.bl.injEq, D.str.injEq, D.lst.injEq, D.tup.injEq, and_true, true_and, exists_const, exists_and_left, exists_and_right, List.getElem?_cons_zero, List.getElem?_cons_succ, List.set_cons_zero, List.set_cons_succ, List.length_cons, List.length_nil, decide_eq_true_eq, if_true, if_false, ite_true, ite_false, List.replicate, List.append_nil, List.nil_append, List.cons_append, List.append_eq, atI0, atI1, atI2, ixN0, ixN1, ixN2, ix30, ix31, ix32, Nat.zero_add, Nat.reduceAdd, Nat.reduceSub, Nat.reduceLeDiff, Option.some.injEq, reduceCtorEq, if_pos, List.replicate_succ, List.replicate_zero, wCall, wCallF, wCon, wConF, wLRg1, agR, agDs, wMkE, wExtend, wAppend, wDic, wDNew, wVals, wValE, Ag.vl.injEq, List.cons.injEq, wFor_eq, wIn, wEnum, wLc_eq, wRange, wYes, gTupD, gConsD, gNilD, List.map_cons, List.map_nil, wipeE]
    refine ⟨ns, _, rfl, by omega, by omega, fun m hp => ⟨by decide, rfl, fun t acc env' => ∃ m, Pot (5 * t) m ∧ acc = List.replicate t (D.bl true) ∧ env' = [.val (.scr K ns), .val (.int (0 + (i : Int))), .own m, .un], ⟨m, hp.mono (by omega), rfl, rfl⟩, And.intro ?_ ?_⟩⟩
    · rintro t d acc env' hd' ⟨m, hp, rfl, rfl⟩
      obtain ⟨ht, rfl⟩ := intsFrom_get _ _ _ _ hd'
      have ht : t < 6 := ht
      simp only [wSeq, wIf, wB, wOp, wOpF, gtD, ltD, geD, leD, intD0, DL.intD, subD, mulD, fdivD, modD, powD, addD, catD, wIxM, wC, wSet, wSetF, wSetM, wRet, wRetF, wRetN, wVar, wFv, wLst, wTup, wCB, wCBF, wCons, wNil, wRef, wNext, wDrop, wAnd, wOr, wNot, wAndV, wOrV, wNotV, wIfE, wNeg, intC, absD, maxD, minD, lenD, wLenM, atDd, atD, mutOf, setMut, agR, agDs, env0, parm, bodyEnds, bodyEndsF, gN, wAsg, exists_eq_left, exists_eq_left', exists_eq, exists_eq', Option.some.injEq, D.int.injEq, Sl.bor.injEq, Sl.own.injEq, Sl.val.injEq, D.bl.injEq, D.str.injEq, D.lst.injEq, D.tup.injEq, and_true, true_and, exists_const, exists_and_left, exists_and_right, List.getElem?_cons_zero, List.getElem?_cons_succ, List.set_cons_zero, List.set_cons_succ, List.length_cons, List.length_nil, decide_eq_true_eq, if_true, if_false, ite_true, ite_false, List.replicate, List.append_nil, List.nil_append, List.cons_append, List.append_eq, atI0, atI1, atI2, ixN0, ixN1, ixN2, ix30, ix31, ix32, Nat.zero_add, Nat.reduceAdd, Nat.reduceSub, Nat.reduceLeDiff, Option.some.injEq, reduceCtorEq, if_pos, List.replicate_succ, List.replicate_zero, wCall, wCallF, wCon, wConF, wLRg1, agR, agDs, wMkE, wExtend, wAppend, wDic, wDNew, wVals, wValE, Ag.vl.injEq, List.cons.injEq, wFor_eq, wIn, wEnum, wLc_eq, wRange, wYes, gTupD, gConsD, gNilD, List.map_cons, List.map_nil, wipeE]
      refine ⟨5 * t, rfl, hp, by omega, fun m' hp' => ⟨by rw [List.length_replicate]; exact Nat.lt_of_lt_of_le (show t < 100000 by omega) sz, m', hp'.mono (by omega), ?_, rfl⟩⟩
      rw [← List.replicate_succ, List.replicate_succ']
    · rintro acc env' ⟨m, hp, rfl, rfl⟩
      simp only [wSeq, wIf, wB, wOp, wOpF, gtD, ltD, geD, leD, intD0, DL.intD, subD, mulD, fdivD, modD, powD, addD, catD, wIxM, wC, wSet, wSetF, wSetM, wRet, wRetF, wRetN, wVar, wFv, wLst, wTup, wCB, wCBF, wCons, wNil, wRef, wNext, wDrop, wAnd, wOr, wNot, wAndV, wOrV, wNotV, wIfE, wNeg, intC, absD, maxD, minD, lenD, wLenM, atDd, atD, mutOf, setMut, agR, agDs, env0, parm, bodyEnds, bodyEndsF, gN, wAsg, exists_eq_left, exists_eq_left', exists_eq, exists_eq', Option.some.injEq, D.int.injEq, Sl.bor.injEq, Sl.own.injEq, Sl.val.injEq, D.bl.injEq, D.str.injEq, D.lst.injEq, D.tup.injEq, and_true, true_and, exists_const, exists_and_left, exists_and_right, List.getElem?_cons_zero, List.getElem?_cons_succ, List.set_cons_zero, List.set_cons_succ, List.length_cons, List.length_nil, decide_eq_true_eq, if_true, if_false, ite_true, ite_false, List.replicate, List.append_nil, List.nil_append, List.cons_append, List.append_eq, atI0, atI1, atI2, ixN0, ixN1, ixN2, ix30, ix31, ix32, Nat.zero_add, Nat.reduceAdd, Nat.reduceSub, Nat.reduceLeDiff, Option.some.injEq, reduceCtorEq, if_pos, List.replicate_succ, List.replicate_zero, wCall, wCallF, wCon, wConF, wLRg1, agR, agDs, wMkE, wExtend, wAppend, wDic, wDNew, wVals, wValE, Ag.vl.injEq, List.cons.injEq, wFor_eq, wIn, wEnum, wLc_eq, wRange, wYes, gTupD, gConsD, gNilD, List.map_cons, List.map_nil, wipeE, restE, List.getD, Option.getD]
      refine ⟨List.replicate 6 true, rfl, _, rfl, ?_⟩
      rw [if_neg (by decide)]
      trivial
  · rintro env' ⟨s1, s2, rfl⟩
    exact k
/-! ### what the top has written -/
abbrev S_init : Stmt := inClass (top 1) 0
theorem sc_init : FnScope ["self", "value"] ["self", "value"] (defScope S_init) := ⟨rfl, rfl, rfl, by decide +kernel, rfl, by decide +kernel, by decide +kernel⟩
def bmOf (C0 : Addr) (i : Nat) : List Value := if i = 0 then veT else .ref C0 :: veT
theorem errs_of {h : Heap} {cs : List Addr} {fI : Addr} (X : K.In h) (G : h.Ns mainGlobals mg) (hl : cs.length = 31) (nd : cs.Nodup) (S : ErrS K fI)
    (F : ∀ (i : Nat) x, errNames[i]? = some x → ErrF K x (cs.getD i 0) fI (bmOf (cs.getD 0 0) i)) : Errs K mg (fun i => cs.getD i 0) ∧ ∀ (i : Nat) x, errNames[i]? = some x → ErrC K mg x (cs.getD i 0) fI := by
  have nm : ∀ i, i ≤ 30 → ∃ x, errNames[i]? = some x := fun i hi => ⟨_, List.getElem?_eq_getElem (show i < errNames.length from Nat.lt_of_le_of_lt hi (by decide))⟩
  have gd : ∀ i, i ≤ 30 → cs[i]? = some (cs.getD i 0) := fun i hi => by
    have : i < cs.length := by omega
    rw [List.getElem?_eq_getElem this]
    simp [List.getD, List.getElem?_eq_getElem this]
  have inj : ∀ i j, i ≤ 30 → j ≤ 30 → cs.getD i 0 = cs.getD j 0 → i = j := fun i j hi hj e => by
    have h1 := gd i hi
    have h2 := gd j hj
    rw [e] at h1
    exact (List.getElem?_inj (by omega) nd).mp (h1.trans h2.symm)
  refine ⟨⟨fun i x e => (F i x e).mgv X G, fun i hi => ?_, fun i hi => ?_, fun i j hi hj => ?_, fun i hi => ?_⟩, fun i x e => (F i x e).errC S X G ?_⟩
  · obtain ⟨x, e⟩ := nm i hi
    exact (F i x e).ec S
  · obtain ⟨x, e⟩ := nm i hi
    exact (F i x e).nv
  · obtain ⟨x, e⟩ := nm i hi
    obtain ⟨y, e'⟩ := nm j hj
    rw [(F i x e).kit (F j y e')]
    congr 1
    unfold bmOf
    have q1 : ∀ a b : Nat, a ≤ 30 → b ≤ 30 → ((Value.ref (cs.getD b 0)) == (Value.ref (cs.getD a 0))) = decide (a = b) := fun a b ha hb => by
      by_cases z : a = b
      · subst z; simp
      · rw [decide_eq_false z]
        refine beq_eq_false_iff_ne.mpr fun y => z ?_
        exact (inj b a hb ha (Value.ref.inj y)).symm
    have q2 : ∀ v : Value, v ∈ veT → (Value.ref (cs.getD j 0) == v) = false := fun v hv => by
      simp only [List.mem_cons, List.not_mem_nil, or_false] at hv
      rcases hv with rfl | rfl | rfl | rfl <;> rfl
    by_cases hi0 : i = 0
    · subst hi0
      rw [if_pos rfl, List.contains_cons, q1 0 j (by decide) hj]
      have : veT.contains (Value.ref (cs.getD j 0)) = false := by
        simp [veT]
      rw [this, Bool.or_false]
      by_cases hj0 : j = 0 <;> simp [hj0, eq_comm]
    · rw [if_neg hi0, List.contains_cons, List.contains_cons, q1 i j hi hj, q1 0 j (by decide) hj]
      have : veT.contains (Value.ref (cs.getD j 0)) = false := by
        simp [veT]
      rw [this, Bool.or_false]
      by_cases hj0 : j = 0 <;> simp [hj0, eq_comm]
  · obtain ⟨x, e⟩ := nm i hi
    refine (F i x e).kitT ?_
    unfold bmOf
    split <;> rfl
  · unfold bmOf
    split <;> rfl
structure DefI (K : PySem.W.Frag) (x qual : Str) (st : Stmt) (f : Addr) : Prop where
  l : ∃ (oc : Value) (od : Option Addr) (kV dc pm : Value) (an : Option Addr) (cd ct : Value) (sl : Array (Option Value)), K.lookup f = some ⟨oc, od, .func (PySem.W.fnOf x qual (defArgs st) (defBody st) (defScope st) .none kV dc pm an cd ct), sl⟩ ∧ PySem.W.codeIn K cd qual = true
  k : PySem.W.keepIn K (.ref f) = true
theorem DefI.fun {x qual : Str} {st : Stmt} {f : Addr} (D : DefI K x qual st f) : ∃ fd, Fun K x qual st f fd := by
  obtain ⟨oc, od, kV, dc, pm, an, cd, ct, sl, l, c⟩ := D.l
  exact ⟨_, fun_mk l c D.k⟩
theorem DefI.t {h : Heap} {x : Str} {st : Stmt} {f : Addr} {ps : List Str} (D : DefI K x x st f) (X : K.In h) (G : h.Ns mainGlobals mg) (a : PySem.W.nsIn K mainGlobals x = some (some (.ref f)))
    (hb : ∀ (kV doc pm : Value) (an : Option Addr) (cdv ct : Value) (us : List Value), us.length = ps.length → bindArgs (PySem.W.fnOf x x (defArgs st) (defBody st) (defScope st) .none kV doc pm an cdv ct) ⟨us, []⟩ = pure (ps.zip us)) : DefT K mg x st ps := by
  obtain ⟨fd, F⟩ := D.fun
  exact ⟨f, fd, F, PySem.W.mg_of X G a, D.k, F.binds hb⟩
end
structure BltK (K : PySem.W.Frag) : Prop where
  b_len : PySem.W.nsIn K mainGlobals "len" = some none
  b_abs : PySem.W.nsIn K mainGlobals "abs" = some none
  b_int : PySem.W.nsIn K mainGlobals "int" = some none
  b_max : PySem.W.nsIn K mainGlobals "max" = some none
  b_min : PySem.W.nsIn K mainGlobals "min" = some none
  b_list : PySem.W.nsIn K mainGlobals "list" = some none
  b_range : PySem.W.nsIn K mainGlobals "range" = some none
  b_repr : PySem.W.nsIn K mainGlobals "repr" = some none
  b_isinstance : PySem.W.nsIn K mainGlobals "isinstance" = some none
  b_enumerate : PySem.W.nsIn K mainGlobals "enumerate" = some none
  b_all : PySem.W.nsIn K mainGlobals "all" = some none
  b_ValueError : PySem.W.nsIn K mainGlobals "ValueError" = some none
theorem blt_of {h : Heap} {K : PySem.W.Frag} {mg : Str → Option Value} (B : BltK K) (X : K.In h) (G : h.Ns mainGlobals mg) : Blt mg := ⟨PySem.W.mg_none_of X G B.b_len, PySem.W.mg_none_of X G B.b_abs, PySem.W.mg_none_of X G B.b_int, PySem.W.mg_none_of X G B.b_max, PySem.W.mg_none_of X G B.b_min, PySem.W.mg_none_of X G B.b_list, PySem.W.mg_none_of X G B.b_range, PySem.W.mg_none_of X G B.b_repr, PySem.W.mg_none_of X G B.b_isinstance, PySem.W.mg_none_of X G B.b_enumerate, PySem.W.mg_none_of X G B.b_all, PySem.W.mg_none_of X G B.b_ValueError⟩
theorem all_mk {l : PySem.W.OpenLaw} {w : World} {K : PySem.W.Frag} {h : Heap} {mg : Str → Option Value} {fa : Addr} (X : K.In h) (G : h.Ns mainGlobals mg) (hfa : mg "law" = some (.ref fa))
    {c0 c1 c2 c3 c4 c5 c6 c7 c8 c9 c10 c11 c12 c13 c14 c15 c16 c17 c18 c19 c20 c21 c22 c23 c24 c25 c26 c27 c28 c29 c30 fI f__law_pot f__law_take f__law_of f__law_places f__law_odd f__law_made_of f__law_marks f__law_nested f__law_right f_law : Addr}
    (e0 : ErrF K "WallError" c0 fI (bmOf c0 0))
    (e1 : ErrF K "BadBook" c1 fI (bmOf c0 1))
    (e2 : ErrF K "NoClient" c2 fI (bmOf c0 2))
    (e3 : ErrF K "NoKind" c3 fI (bmOf c0 3))
    (e4 : ErrF K "BadRivals" c4 fI (bmOf c0 4))
    (e5 : ErrF K "BadWord" c5 fI (bmOf c0 5))
    (e6 : ErrF K "BadRight" c6 fI (bmOf c0 6))
    (e7 : ErrF K "BadPairs" c7 fI (bmOf c0 7))
    (e8 : ErrF K "BadLot" c8 fI (bmOf c0 8))
    (e9 : ErrF K "BadPair" c9 fI (bmOf c0 9))
    (e10 : ErrF K "OtherBook" c10 fI (bmOf c0 10))
    (e11 : ErrF K "BadStaff" c11 fI (bmOf c0 11))
    (e12 : ErrF K "BadRun" c12 fI (bmOf c0 12))
    (e13 : ErrF K "NotApart" c13 fI (bmOf c0 13))
    (e14 : ErrF K "TooMany" c14 fI (bmOf c0 14))
    (e15 : ErrF K "BadOffers" c15 fI (bmOf c0 15))
    (e16 : ErrF K "BadClients" c16 fI (bmOf c0 16))
    (e17 : ErrF K "BadCases" c17 fI (bmOf c0 17))
    (e18 : ErrF K "NoneFits" c18 fI (bmOf c0 18))
    (e19 : ErrF K "BadRivalry" c19 fI (bmOf c0 19))
    (e20 : ErrF K "NoPerson" c20 fI (bmOf c0 20))
    (e21 : ErrF K "Full" c21 fI (bmOf c0 21))
    (e22 : ErrF K "NoRight" c22 fI (bmOf c0 22))
    (e23 : ErrF K "Rival" c23 fI (bmOf c0 23))
    (e24 : ErrF K "Fenced" c24 fI (bmOf c0 24))
    (e25 : ErrF K "Left" c25 fI (bmOf c0 25))
    (e26 : ErrF K "NothingToUndo" c26 fI (bmOf c0 26))
    (e27 : ErrF K "NothingToRedo" c27 fI (bmOf c0 27))
    (e28 : ErrF K "NoTrial" c28 fI (bmOf c0 28))
    (e29 : ErrF K "BadJournal" c29 fI (bmOf c0 29))
    (e30 : ErrF K "BadLine" c30 fI (bmOf c0 30))
    (S : ErrS K fI) (dI : DefI K "__init__" "WallError.__init__" S_init fI) (B : BltK K)
    (a__law_pot : PySem.W.nsIn K mainGlobals "_law_pot" = some (some (.ref f__law_pot))) (d__law_pot : DefI K "_law_pot" "_law_pot" S_law_pot f__law_pot)
    (a__law_take : PySem.W.nsIn K mainGlobals "_law_take" = some (some (.ref f__law_take))) (d__law_take : DefI K "_law_take" "_law_take" S_law_take f__law_take)
    (a__law_of : PySem.W.nsIn K mainGlobals "_law_of" = some (some (.ref f__law_of))) (d__law_of : DefI K "_law_of" "_law_of" S_law_of f__law_of)
    (a__law_places : PySem.W.nsIn K mainGlobals "_law_places" = some (some (.ref f__law_places))) (d__law_places : DefI K "_law_places" "_law_places" S_law_places f__law_places)
    (a__law_odd : PySem.W.nsIn K mainGlobals "_law_odd" = some (some (.ref f__law_odd))) (d__law_odd : DefI K "_law_odd" "_law_odd" S_law_odd f__law_odd)
    (a__law_made_of : PySem.W.nsIn K mainGlobals "_law_made_of" = some (some (.ref f__law_made_of))) (d__law_made_of : DefI K "_law_made_of" "_law_made_of" S_law_made_of f__law_made_of)
    (a__law_marks : PySem.W.nsIn K mainGlobals "_law_marks" = some (some (.ref f__law_marks))) (d__law_marks : DefI K "_law_marks" "_law_marks" S_law_marks f__law_marks)
    (a__law_nested : PySem.W.nsIn K mainGlobals "_law_nested" = some (some (.ref f__law_nested))) (d__law_nested : DefI K "_law_nested" "_law_nested" S_law_nested f__law_nested)
    (a__law_right : PySem.W.nsIn K mainGlobals "_law_right" = some (some (.ref f__law_right))) (d__law_right : DefI K "_law_right" "_law_right" S_law_right f__law_right)
    (a_law : PySem.W.nsIn K mainGlobals "law" = some (some (.ref f_law))) (d_law : DefI K "law" "law" Slaw f_law)
    (nd : ([c0, c1, c2, c3, c4, c5, c6, c7, c8, c9, c10, c11, c12, c13, c14, c15, c16, c17, c18, c19, c20, c21, c22, c23, c24, c25, c26, c27, c28, c29, c30] : List Addr).Nodup) :
    ∃ fd : FuncData, (∀ (s : Shared) (v : Value), BindsTo s fd ⟨[v], []⟩ [("script", v)]) ∧ ∀ base : Heap, K.In base → base.Ns mainGlobals mg → SysB base → FnG l.prog w K mg base 9 fa fd ["script"] (spOf 1 none (cLaw K)) := by
  have e := hfa.symm.trans (PySem.W.mg_of X G a_law)
  cases e
  have Bl := blt_of B X G
  have EE := errs_of (fI := fI) (cs := [c0, c1, c2, c3, c4, c5, c6, c7, c8, c9, c10, c11, c12, c13, c14, c15, c16, c17, c18, c19, c20, c21, c22, c23, c24, c25, c26, c27, c28, c29, c30]) X G rfl nd S (fun i x e => match i, e with
    | 0, e => by
      have e' : some ("WallError" : Str) = some x := e
      cases e'
      exact e0
    | 1, e => by
      have e' : some ("BadBook" : Str) = some x := e
      cases e'
      exact e1
    | 2, e => by
      have e' : some ("NoClient" : Str) = some x := e
      cases e'
      exact e2
    | 3, e => by
      have e' : some ("NoKind" : Str) = some x := e
      cases e'
      exact e3
    | 4, e => by
      have e' : some ("BadRivals" : Str) = some x := e
      cases e'
      exact e4
    | 5, e => by
      have e' : some ("BadWord" : Str) = some x := e
      cases e'
      exact e5
    | 6, e => by
      have e' : some ("BadRight" : Str) = some x := e
      cases e'
      exact e6
    | 7, e => by
      have e' : some ("BadPairs" : Str) = some x := e
      cases e'
      exact e7
    | 8, e => by
      have e' : some ("BadLot" : Str) = some x := e
      cases e'
      exact e8
    | 9, e => by
      have e' : some ("BadPair" : Str) = some x := e
      cases e'
      exact e9
    | 10, e => by
      have e' : some ("OtherBook" : Str) = some x := e
      cases e'
      exact e10
    | 11, e => by
      have e' : some ("BadStaff" : Str) = some x := e
      cases e'
      exact e11
    | 12, e => by
      have e' : some ("BadRun" : Str) = some x := e
      cases e'
      exact e12
    | 13, e => by
      have e' : some ("NotApart" : Str) = some x := e
      cases e'
      exact e13
    | 14, e => by
      have e' : some ("TooMany" : Str) = some x := e
      cases e'
      exact e14
    | 15, e => by
      have e' : some ("BadOffers" : Str) = some x := e
      cases e'
      exact e15
    | 16, e => by
      have e' : some ("BadClients" : Str) = some x := e
      cases e'
      exact e16
    | 17, e => by
      have e' : some ("BadCases" : Str) = some x := e
      cases e'
      exact e17
    | 18, e => by
      have e' : some ("NoneFits" : Str) = some x := e
      cases e'
      exact e18
    | 19, e => by
      have e' : some ("BadRivalry" : Str) = some x := e
      cases e'
      exact e19
    | 20, e => by
      have e' : some ("NoPerson" : Str) = some x := e
      cases e'
      exact e20
    | 21, e => by
      have e' : some ("Full" : Str) = some x := e
      cases e'
      exact e21
    | 22, e => by
      have e' : some ("NoRight" : Str) = some x := e
      cases e'
      exact e22
    | 23, e => by
      have e' : some ("Rival" : Str) = some x := e
      cases e'
      exact e23
    | 24, e => by
      have e' : some ("Fenced" : Str) = some x := e
      cases e'
      exact e24
    | 25, e => by
      have e' : some ("Left" : Str) = some x := e
      cases e'
      exact e25
    | 26, e => by
      have e' : some ("NothingToUndo" : Str) = some x := e
      cases e'
      exact e26
    | 27, e => by
      have e' : some ("NothingToRedo" : Str) = some x := e
      cases e'
      exact e27
    | 28, e => by
      have e' : some ("NoTrial" : Str) = some x := e
      cases e'
      exact e28
    | 29, e => by
      have e' : some ("BadJournal" : Str) = some x := e
      cases e'
      exact e29
    | 30, e => by
      have e' : some ("BadLine" : Str) = some x := e
      cases e'
      exact e30
    | n + 31, e => by simp [errNames] at e)
  obtain ⟨X1, EC⟩ := EE
  obtain ⟨fdI, FI⟩ := dI.fun
  have bI : Binds K fdI ["self", "value"] [] := FI.binds fun _ _ _ _ _ _ us hl => match us, hl with | [_, _], _ => rfl
  have t__law_pot : DefT K mg "_law_pot" S_law_pot ["script", "k"] := d__law_pot.t X G a__law_pot fun _ _ _ _ _ _ us hl => match us, hl with | [_, _], _ => rfl
  have t__law_take : DefT K mg "_law_take" S_law_take ["pot", "upto"] := d__law_take.t X G a__law_take fun _ _ _ _ _ _ us hl => match us, hl with | [_, _], _ => rfl
  have t__law_of : DefT K mg "_law_of" S_law_of ["pot", "some"] := d__law_of.t X G a__law_of fun _ _ _ _ _ _ us hl => match us, hl with | [_, _], _ => rfl
  have t__law_places : DefT K mg "_law_places" S_law_places ["script", "most"] := d__law_places.t X G a__law_places fun _ _ _ _ _ _ us hl => match us, hl with | [_, _], _ => rfl
  have t__law_odd : DefT K mg "_law_odd" S_law_odd ["pot"] := d__law_odd.t X G a__law_odd fun _ _ _ _ _ _ us hl => match us, hl with | [_], _ => rfl
  have t__law_made_of : DefT K mg "_law_made_of" S_law_made_of ["value"] := d__law_made_of.t X G a__law_made_of fun _ _ _ _ _ _ us hl => match us, hl with | [_], _ => rfl
  have t__law_marks : DefT K mg "_law_marks" S_law_marks ["error"] := d__law_marks.t X G a__law_marks fun _ _ _ _ _ _ us hl => match us, hl with | [_], _ => rfl
  have t__law_nested : DefT K mg "_law_nested" S_law_nested ["pot", "deep"] := d__law_nested.t X G a__law_nested fun _ _ _ _ _ _ us hl => match us, hl with | [_, _], _ => rfl
  have t__law_right : DefT K mg "_law_right" S_law_right ["pot"] := d__law_right.t X G a__law_right fun _ _ _ _ _ _ us hl => match us, hl with | [_], _ => rfl
  obtain ⟨oc, od, kV, dc, pm, an, cd, ct, sl, ll, cc⟩ := d_law.l
  refine ⟨_, fun s v => ?_, fun base X' G' hS => ok_law Bl (fun_mk ll cc d_law.k) ?_ ?_ ?_⟩
  · exact .of_eq rfl
  · exact ok_places Bl t__law_places
  · exact ok_pot Bl t__law_pot
  · have M : ∀ (i : Nat) x, errNames[i]? = some x → MkE l.prog w K mg base 1 x _ := fun i x e => ⟨fI, fdI, EC i x e, init_ok FI sc_init ⟨.inl rfl, .inl rfl⟩ rfl, bI⟩
    have tk := ok_take (P := l.prog) (w := w) (base := base) Bl t__law_take
    have od := ok_odd Bl t__law_odd (ok_of Bl t__law_of tk)
    exact ok_right Bl hS X1 M t__law_right (ok_nested Bl hS t__law_nested tk od 3) (ok_made M t__law_made_of) (ok_marks Bl X1 t__law_marks)
theorem law_sp (K : PySem.W.Frag) (H : Hp) (a : Addr) (ns : List Int) (hS : SqL K H a (ns.map V.int)) : spOf 1 none (cLaw K) [.ref a] H (fun v _ => v = .bl true) fun _ _ _ => False := by
  refine ⟨fun _ => False, [.scr K ns], 0, [], fun d _ => d = .bl true, fun _ _ => False, rfl, fun _ z => z.elim, ⟨rfl, fun i v d _ e1 e2 => ?_, (fun j z => nomatch z), fun _ => rfl⟩, ⟨ns, rfl, rfl⟩, fun d m' v H' e dn _ _ => ?_, fun C d dd v H' z => z.elim⟩
  · cases i with
    | succ i => simp at e1
    | zero =>
      simp at e1 e2
      subst e1; subst e2
      rcases hS with r | r
      · exact .scr r (fun z => z)
      · exact .scrK r
  · subst e
    cases dn
    rfl
end K00
set_option Elab.async false
set_option linter.all false
open PySem PySem.W PyProof.Rows
set_option maxRecDepth 100000 in
set_option maxHeartbeats 0 in
theorem PySem.Challenge.cw_wallbooks_k00_errors_and_what_they_keep_holds : PySem.Challenge.rw_wallbooks_k00_errors_and_what_they_keep.Holds := by
  w_on; o_law; k_head; (case hw => w_witness2)
  k_fill
  refine DL.walk_ofG (l := PySem.Challenge.rw_wallbooks_k00_errors_and_what_they_keep) (n := 63) (k := 9) (x := "script") (sp := fun w => DL.spOf 1 none (K00.cLaw _)) rfl (by decide) rfl ⟨rfl, by decide, by decide⟩ (by decide +kernel) (fun w h Y => PySem.W.kIn_of Y) ?F (fun w H a ns hl hO hS => K00.law_sp _ H a ns hS)
  case F =>
    intro w mg fa h KX G hmg
    refine' K00.all_mk KX G hmg ?e0 ?e1 ?e2 ?e3 ?e4 ?e5 ?e6 ?e7 ?e8 ?e9 ?e10 ?e11 ?e12 ?e13 ?e14 ?e15 ?e16 ?e17 ?e18 ?e19 ?e20 ?e21 ?e22 ?e23 ?e24 ?e25 ?e26 ?e27 ?e28 ?e29 ?e30 ?S ?dI ?B ?a__law_pot ?d__law_pot ?a__law_take ?d__law_take ?a__law_of ?d__law_of ?a__law_places ?d__law_places ?a__law_odd ?d__law_odd ?a__law_made_of ?d__law_made_of ?a__law_marks ?d__law_marks ?a__law_nested ?d__law_nested ?a__law_right ?d__law_right ?a_law ?d_law ?nd
    (case e0 => refine' ⟨?a, ⟨_, _, _, _, _, _, _, _, _, _, _, _, _, _, ?l⟩, ?sa, ?ex, ?ty, ?kc, ?nv, ?ic, ?hg, ?hk, ?hd, ?ha, ?hm⟩; (case a => k_is); (case l => first | k_is | (refine Eq.trans (b := some _) (by k_is) ?_; rfl)); (case sa => k_is); (case ex => k_is); (case ty => k_is); (case kc => k_is); (case nv => k_is); (case ic => k_is); (case hg => k_is); (case hk => k_is); (case hd => k_is); (case ha => k_is); (case hm => k_is))
    (case e1 => refine' ⟨?a, ⟨_, _, _, _, _, _, _, _, _, _, _, _, _, _, ?l⟩, ?sa, ?ex, ?ty, ?kc, ?nv, ?ic, ?hg, ?hk, ?hd, ?ha, ?hm⟩; (case a => k_is); (case l => first | k_is | (refine Eq.trans (b := some _) (by k_is) ?_; rfl)); (case sa => k_is); (case ex => k_is); (case ty => k_is); (case kc => k_is); (case nv => k_is); (case ic => k_is); (case hg => k_is); (case hk => k_is); (case hd => k_is); (case ha => k_is); (case hm => k_is))
    (case e2 => refine' ⟨?a, ⟨_, _, _, _, _, _, _, _, _, _, _, _, _, _, ?l⟩, ?sa, ?ex, ?ty, ?kc, ?nv, ?ic, ?hg, ?hk, ?hd, ?ha, ?hm⟩; (case a => k_is); (case l => first | k_is | (refine Eq.trans (b := some _) (by k_is) ?_; rfl)); (case sa => k_is); (case ex => k_is); (case ty => k_is); (case kc => k_is); (case nv => k_is); (case ic => k_is); (case hg => k_is); (case hk => k_is); (case hd => k_is); (case ha => k_is); (case hm => k_is))
    (case e3 => refine' ⟨?a, ⟨_, _, _, _, _, _, _, _, _, _, _, _, _, _, ?l⟩, ?sa, ?ex, ?ty, ?kc, ?nv, ?ic, ?hg, ?hk, ?hd, ?ha, ?hm⟩; (case a => k_is); (case l => first | k_is | (refine Eq.trans (b := some _) (by k_is) ?_; rfl)); (case sa => k_is); (case ex => k_is); (case ty => k_is); (case kc => k_is); (case nv => k_is); (case ic => k_is); (case hg => k_is); (case hk => k_is); (case hd => k_is); (case ha => k_is); (case hm => k_is))
    (case e4 => refine' ⟨?a, ⟨_, _, _, _, _, _, _, _, _, _, _, _, _, _, ?l⟩, ?sa, ?ex, ?ty, ?kc, ?nv, ?ic, ?hg, ?hk, ?hd, ?ha, ?hm⟩; (case a => k_is); (case l => first | k_is | (refine Eq.trans (b := some _) (by k_is) ?_; rfl)); (case sa => k_is); (case ex => k_is); (case ty => k_is); (case kc => k_is); (case nv => k_is); (case ic => k_is); (case hg => k_is); (case hk => k_is); (case hd => k_is); (case ha => k_is); (case hm => k_is))
    (case e5 => refine' ⟨?a, ⟨_, _, _, _, _, _, _, _, _, _, _, _, _, _, ?l⟩, ?sa, ?ex, ?ty, ?kc, ?nv, ?ic, ?hg, ?hk, ?hd, ?ha, ?hm⟩; (case a => k_is); (case l => first | k_is | (refine Eq.trans (b := some _) (by k_is) ?_; rfl)); (case sa => k_is); (case ex => k_is); (case ty => k_is); (case kc => k_is); (case nv => k_is); (case ic => k_is); (case hg => k_is); (case hk => k_is); (case hd => k_is); (case ha => k_is); (case hm => k_is))
    (case e6 => refine' ⟨?a, ⟨_, _, _, _, _, _, _, _, _, _, _, _, _, _, ?l⟩, ?sa, ?ex, ?ty, ?kc, ?nv, ?ic, ?hg, ?hk, ?hd, ?ha, ?hm⟩; (case a => k_is); (case l => first | k_is | (refine Eq.trans (b := some _) (by k_is) ?_; rfl)); (case sa => k_is); (case ex => k_is); (case ty => k_is); (case kc => k_is); (case nv => k_is); (case ic => k_is); (case hg => k_is); (case hk => k_is); (case hd => k_is); (case ha => k_is); (case hm => k_is))
    (case e7 => refine' ⟨?a, ⟨_, _, _, _, _, _, _, _, _, _, _, _, _, _, ?l⟩, ?sa, ?ex, ?ty, ?kc, ?nv, ?ic, ?hg, ?hk, ?hd, ?ha, ?hm⟩; (case a => k_is); (case l => first | k_is | (refine Eq.trans (b := some _) (by k_is) ?_; rfl)); (case sa => k_is); (case ex => k_is); (case ty => k_is); (case kc => k_is); (case nv => k_is); (case ic => k_is); (case hg => k_is); (case hk => k_is); (case hd => k_is); (case ha => k_is); (case hm => k_is))
    (case e8 => refine' ⟨?a, ⟨_, _, _, _, _, _, _, _, _, _, _, _, _, _, ?l⟩, ?sa, ?ex, ?ty, ?kc, ?nv, ?ic, ?hg, ?hk, ?hd, ?ha, ?hm⟩; (case a => k_is); (case l => first | k_is | (refine Eq.trans (b := some _) (by k_is) ?_; rfl)); (case sa => k_is); (case ex => k_is); (case ty => k_is); (case kc => k_is); (case nv => k_is); (case ic => k_is); (case hg => k_is); (case hk => k_is); (case hd => k_is); (case ha => k_is); (case hm => k_is))
    (case e9 => refine' ⟨?a, ⟨_, _, _, _, _, _, _, _, _, _, _, _, _, _, ?l⟩, ?sa, ?ex, ?ty, ?kc, ?nv, ?ic, ?hg, ?hk, ?hd, ?ha, ?hm⟩; (case a => k_is); (case l => first | k_is | (refine Eq.trans (b := some _) (by k_is) ?_; rfl)); (case sa => k_is); (case ex => k_is); (case ty => k_is); (case kc => k_is); (case nv => k_is); (case ic => k_is); (case hg => k_is); (case hk => k_is); (case hd => k_is); (case ha => k_is); (case hm => k_is))
    (case e10 => refine' ⟨?a, ⟨_, _, _, _, _, _, _, _, _, _, _, _, _, _, ?l⟩, ?sa, ?ex, ?ty, ?kc, ?nv, ?ic, ?hg, ?hk, ?hd, ?ha, ?hm⟩; (case a => k_is); (case l => first | k_is | (refine Eq.trans (b := some _) (by k_is) ?_; rfl)); (case sa => k_is); (case ex => k_is); (case ty => k_is); (case kc => k_is); (case nv => k_is); (case ic => k_is); (case hg => k_is); (case hk => k_is); (case hd => k_is); (case ha => k_is); (case hm => k_is))
    (case e11 => refine' ⟨?a, ⟨_, _, _, _, _, _, _, _, _, _, _, _, _, _, ?l⟩, ?sa, ?ex, ?ty, ?kc, ?nv, ?ic, ?hg, ?hk, ?hd, ?ha, ?hm⟩; (case a => k_is); (case l => first | k_is | (refine Eq.trans (b := some _) (by k_is) ?_; rfl)); (case sa => k_is); (case ex => k_is); (case ty => k_is); (case kc => k_is); (case nv => k_is); (case ic => k_is); (case hg => k_is); (case hk => k_is); (case hd => k_is); (case ha => k_is); (case hm => k_is))
    (case e12 => refine' ⟨?a, ⟨_, _, _, _, _, _, _, _, _, _, _, _, _, _, ?l⟩, ?sa, ?ex, ?ty, ?kc, ?nv, ?ic, ?hg, ?hk, ?hd, ?ha, ?hm⟩; (case a => k_is); (case l => first | k_is | (refine Eq.trans (b := some _) (by k_is) ?_; rfl)); (case sa => k_is); (case ex => k_is); (case ty => k_is); (case kc => k_is); (case nv => k_is); (case ic => k_is); (case hg => k_is); (case hk => k_is); (case hd => k_is); (case ha => k_is); (case hm => k_is))
    (case e13 => refine' ⟨?a, ⟨_, _, _, _, _, _, _, _, _, _, _, _, _, _, ?l⟩, ?sa, ?ex, ?ty, ?kc, ?nv, ?ic, ?hg, ?hk, ?hd, ?ha, ?hm⟩; (case a => k_is); (case l => first | k_is | (refine Eq.trans (b := some _) (by k_is) ?_; rfl)); (case sa => k_is); (case ex => k_is); (case ty => k_is); (case kc => k_is); (case nv => k_is); (case ic => k_is); (case hg => k_is); (case hk => k_is); (case hd => k_is); (case ha => k_is); (case hm => k_is))
    (case e14 => refine' ⟨?a, ⟨_, _, _, _, _, _, _, _, _, _, _, _, _, _, ?l⟩, ?sa, ?ex, ?ty, ?kc, ?nv, ?ic, ?hg, ?hk, ?hd, ?ha, ?hm⟩; (case a => k_is); (case l => first | k_is | (refine Eq.trans (b := some _) (by k_is) ?_; rfl)); (case sa => k_is); (case ex => k_is); (case ty => k_is); (case kc => k_is); (case nv => k_is); (case ic => k_is); (case hg => k_is); (case hk => k_is); (case hd => k_is); (case ha => k_is); (case hm => k_is))
    (case e15 => refine' ⟨?a, ⟨_, _, _, _, _, _, _, _, _, _, _, _, _, _, ?l⟩, ?sa, ?ex, ?ty, ?kc, ?nv, ?ic, ?hg, ?hk, ?hd, ?ha, ?hm⟩; (case a => k_is); (case l => first | k_is | (refine Eq.trans (b := some _) (by k_is) ?_; rfl)); (case sa => k_is); (case ex => k_is); (case ty => k_is); (case kc => k_is); (case nv => k_is); (case ic => k_is); (case hg => k_is); (case hk => k_is); (case hd => k_is); (case ha => k_is); (case hm => k_is))
    (case e16 => refine' ⟨?a, ⟨_, _, _, _, _, _, _, _, _, _, _, _, _, _, ?l⟩, ?sa, ?ex, ?ty, ?kc, ?nv, ?ic, ?hg, ?hk, ?hd, ?ha, ?hm⟩; (case a => k_is); (case l => first | k_is | (refine Eq.trans (b := some _) (by k_is) ?_; rfl)); (case sa => k_is); (case ex => k_is); (case ty => k_is); (case kc => k_is); (case nv => k_is); (case ic => k_is); (case hg => k_is); (case hk => k_is); (case hd => k_is); (case ha => k_is); (case hm => k_is))
    (case e17 => refine' ⟨?a, ⟨_, _, _, _, _, _, _, _, _, _, _, _, _, _, ?l⟩, ?sa, ?ex, ?ty, ?kc, ?nv, ?ic, ?hg, ?hk, ?hd, ?ha, ?hm⟩; (case a => k_is); (case l => first | k_is | (refine Eq.trans (b := some _) (by k_is) ?_; rfl)); (case sa => k_is); (case ex => k_is); (case ty => k_is); (case kc => k_is); (case nv => k_is); (case ic => k_is); (case hg => k_is); (case hk => k_is); (case hd => k_is); (case ha => k_is); (case hm => k_is))
    (case e18 => refine' ⟨?a, ⟨_, _, _, _, _, _, _, _, _, _, _, _, _, _, ?l⟩, ?sa, ?ex, ?ty, ?kc, ?nv, ?ic, ?hg, ?hk, ?hd, ?ha, ?hm⟩; (case a => k_is); (case l => first | k_is | (refine Eq.trans (b := some _) (by k_is) ?_; rfl)); (case sa => k_is); (case ex => k_is); (case ty => k_is); (case kc => k_is); (case nv => k_is); (case ic => k_is); (case hg => k_is); (case hk => k_is); (case hd => k_is); (case ha => k_is); (case hm => k_is))
    (case e19 => refine' ⟨?a, ⟨_, _, _, _, _, _, _, _, _, _, _, _, _, _, ?l⟩, ?sa, ?ex, ?ty, ?kc, ?nv, ?ic, ?hg, ?hk, ?hd, ?ha, ?hm⟩; (case a => k_is); (case l => first | k_is | (refine Eq.trans (b := some _) (by k_is) ?_; rfl)); (case sa => k_is); (case ex => k_is); (case ty => k_is); (case kc => k_is); (case nv => k_is); (case ic => k_is); (case hg => k_is); (case hk => k_is); (case hd => k_is); (case ha => k_is); (case hm => k_is))
    (case e20 => refine' ⟨?a, ⟨_, _, _, _, _, _, _, _, _, _, _, _, _, _, ?l⟩, ?sa, ?ex, ?ty, ?kc, ?nv, ?ic, ?hg, ?hk, ?hd, ?ha, ?hm⟩; (case a => k_is); (case l => first | k_is | (refine Eq.trans (b := some _) (by k_is) ?_; rfl)); (case sa => k_is); (case ex => k_is); (case ty => k_is); (case kc => k_is); (case nv => k_is); (case ic => k_is); (case hg => k_is); (case hk => k_is); (case hd => k_is); (case ha => k_is); (case hm => k_is))
    (case e21 => refine' ⟨?a, ⟨_, _, _, _, _, _, _, _, _, _, _, _, _, _, ?l⟩, ?sa, ?ex, ?ty, ?kc, ?nv, ?ic, ?hg, ?hk, ?hd, ?ha, ?hm⟩; (case a => k_is); (case l => first | k_is | (refine Eq.trans (b := some _) (by k_is) ?_; rfl)); (case sa => k_is); (case ex => k_is); (case ty => k_is); (case kc => k_is); (case nv => k_is); (case ic => k_is); (case hg => k_is); (case hk => k_is); (case hd => k_is); (case ha => k_is); (case hm => k_is))
    (case e22 => refine' ⟨?a, ⟨_, _, _, _, _, _, _, _, _, _, _, _, _, _, ?l⟩, ?sa, ?ex, ?ty, ?kc, ?nv, ?ic, ?hg, ?hk, ?hd, ?ha, ?hm⟩; (case a => k_is); (case l => first | k_is | (refine Eq.trans (b := some _) (by k_is) ?_; rfl)); (case sa => k_is); (case ex => k_is); (case ty => k_is); (case kc => k_is); (case nv => k_is); (case ic => k_is); (case hg => k_is); (case hk => k_is); (case hd => k_is); (case ha => k_is); (case hm => k_is))
    (case e23 => refine' ⟨?a, ⟨_, _, _, _, _, _, _, _, _, _, _, _, _, _, ?l⟩, ?sa, ?ex, ?ty, ?kc, ?nv, ?ic, ?hg, ?hk, ?hd, ?ha, ?hm⟩; (case a => k_is); (case l => first | k_is | (refine Eq.trans (b := some _) (by k_is) ?_; rfl)); (case sa => k_is); (case ex => k_is); (case ty => k_is); (case kc => k_is); (case nv => k_is); (case ic => k_is); (case hg => k_is); (case hk => k_is); (case hd => k_is); (case ha => k_is); (case hm => k_is))
    (case e24 => refine' ⟨?a, ⟨_, _, _, _, _, _, _, _, _, _, _, _, _, _, ?l⟩, ?sa, ?ex, ?ty, ?kc, ?nv, ?ic, ?hg, ?hk, ?hd, ?ha, ?hm⟩; (case a => k_is); (case l => first | k_is | (refine Eq.trans (b := some _) (by k_is) ?_; rfl)); (case sa => k_is); (case ex => k_is); (case ty => k_is); (case kc => k_is); (case nv => k_is); (case ic => k_is); (case hg => k_is); (case hk => k_is); (case hd => k_is); (case ha => k_is); (case hm => k_is))
    (case e25 => refine' ⟨?a, ⟨_, _, _, _, _, _, _, _, _, _, _, _, _, _, ?l⟩, ?sa, ?ex, ?ty, ?kc, ?nv, ?ic, ?hg, ?hk, ?hd, ?ha, ?hm⟩; (case a => k_is); (case l => first | k_is | (refine Eq.trans (b := some _) (by k_is) ?_; rfl)); (case sa => k_is); (case ex => k_is); (case ty => k_is); (case kc => k_is); (case nv => k_is); (case ic => k_is); (case hg => k_is); (case hk => k_is); (case hd => k_is); (case ha => k_is); (case hm => k_is))
    (case e26 => refine' ⟨?a, ⟨_, _, _, _, _, _, _, _, _, _, _, _, _, _, ?l⟩, ?sa, ?ex, ?ty, ?kc, ?nv, ?ic, ?hg, ?hk, ?hd, ?ha, ?hm⟩; (case a => k_is); (case l => first | k_is | (refine Eq.trans (b := some _) (by k_is) ?_; rfl)); (case sa => k_is); (case ex => k_is); (case ty => k_is); (case kc => k_is); (case nv => k_is); (case ic => k_is); (case hg => k_is); (case hk => k_is); (case hd => k_is); (case ha => k_is); (case hm => k_is))
    (case e27 => refine' ⟨?a, ⟨_, _, _, _, _, _, _, _, _, _, _, _, _, _, ?l⟩, ?sa, ?ex, ?ty, ?kc, ?nv, ?ic, ?hg, ?hk, ?hd, ?ha, ?hm⟩; (case a => k_is); (case l => first | k_is | (refine Eq.trans (b := some _) (by k_is) ?_; rfl)); (case sa => k_is); (case ex => k_is); (case ty => k_is); (case kc => k_is); (case nv => k_is); (case ic => k_is); (case hg => k_is); (case hk => k_is); (case hd => k_is); (case ha => k_is); (case hm => k_is))
    (case e28 => refine' ⟨?a, ⟨_, _, _, _, _, _, _, _, _, _, _, _, _, _, ?l⟩, ?sa, ?ex, ?ty, ?kc, ?nv, ?ic, ?hg, ?hk, ?hd, ?ha, ?hm⟩; (case a => k_is); (case l => first | k_is | (refine Eq.trans (b := some _) (by k_is) ?_; rfl)); (case sa => k_is); (case ex => k_is); (case ty => k_is); (case kc => k_is); (case nv => k_is); (case ic => k_is); (case hg => k_is); (case hk => k_is); (case hd => k_is); (case ha => k_is); (case hm => k_is))
    (case e29 => refine' ⟨?a, ⟨_, _, _, _, _, _, _, _, _, _, _, _, _, _, ?l⟩, ?sa, ?ex, ?ty, ?kc, ?nv, ?ic, ?hg, ?hk, ?hd, ?ha, ?hm⟩; (case a => k_is); (case l => first | k_is | (refine Eq.trans (b := some _) (by k_is) ?_; rfl)); (case sa => k_is); (case ex => k_is); (case ty => k_is); (case kc => k_is); (case nv => k_is); (case ic => k_is); (case hg => k_is); (case hk => k_is); (case hd => k_is); (case ha => k_is); (case hm => k_is))
    (case e30 => refine' ⟨?a, ⟨_, _, _, _, _, _, _, _, _, _, _, _, _, _, ?l⟩, ?sa, ?ex, ?ty, ?kc, ?nv, ?ic, ?hg, ?hk, ?hd, ?ha, ?hm⟩; (case a => k_is); (case l => first | k_is | (refine Eq.trans (b := some _) (by k_is) ?_; rfl)); (case sa => k_is); (case ex => k_is); (case ty => k_is); (case kc => k_is); (case nv => k_is); (case ic => k_is); (case hg => k_is); (case hk => k_is); (case hd => k_is); (case ha => k_is); (case hm => k_is))
    (case S => refine' ⟨?ti, ?hn, ?ht⟩; (case ti => k_is); (case hn => k_is); (case ht => k_is))
    (case dI => refine' ⟨⟨_, _, _, _, _, _, _, _, _, ?l, ?c⟩, ?k⟩; (case l => first | k_is | (refine Eq.trans (b := some _) (by k_is) ?_; rfl)); (case c => k_is); (case k => k_is))
    (case B => refine' ⟨?b0, ?b1, ?b2, ?b3, ?b4, ?b5, ?b6, ?b7, ?b8, ?b9, ?b10, ?b11⟩; (case b0 => k_is); (case b1 => k_is); (case b2 => k_is); (case b3 => k_is); (case b4 => k_is); (case b5 => k_is); (case b6 => k_is); (case b7 => k_is); (case b8 => k_is); (case b9 => k_is); (case b10 => k_is); (case b11 => k_is))
    (case a__law_pot => k_is)
    (case d__law_pot => refine' ⟨⟨_, _, _, _, _, _, _, _, _, ?l, ?c⟩, ?k⟩; (case l => first | k_is | (refine Eq.trans (b := some _) (by k_is) ?_; rfl)); (case c => k_is); (case k => k_is))
    (case a__law_take => k_is)
    (case d__law_take => refine' ⟨⟨_, _, _, _, _, _, _, _, _, ?l, ?c⟩, ?k⟩; (case l => first | k_is | (refine Eq.trans (b := some _) (by k_is) ?_; rfl)); (case c => k_is); (case k => k_is))
    (case a__law_of => k_is)
    (case d__law_of => refine' ⟨⟨_, _, _, _, _, _, _, _, _, ?l, ?c⟩, ?k⟩; (case l => first | k_is | (refine Eq.trans (b := some _) (by k_is) ?_; rfl)); (case c => k_is); (case k => k_is))
    (case a__law_places => k_is)
    (case d__law_places => refine' ⟨⟨_, _, _, _, _, _, _, _, _, ?l, ?c⟩, ?k⟩; (case l => first | k_is | (refine Eq.trans (b := some _) (by k_is) ?_; rfl)); (case c => k_is); (case k => k_is))
    (case a__law_odd => k_is)
    (case d__law_odd => refine' ⟨⟨_, _, _, _, _, _, _, _, _, ?l, ?c⟩, ?k⟩; (case l => first | k_is | (refine Eq.trans (b := some _) (by k_is) ?_; rfl)); (case c => k_is); (case k => k_is))
    (case a__law_made_of => k_is)
    (case d__law_made_of => refine' ⟨⟨_, _, _, _, _, _, _, _, _, ?l, ?c⟩, ?k⟩; (case l => first | k_is | (refine Eq.trans (b := some _) (by k_is) ?_; rfl)); (case c => k_is); (case k => k_is))
    (case a__law_marks => k_is)
    (case d__law_marks => refine' ⟨⟨_, _, _, _, _, _, _, _, _, ?l, ?c⟩, ?k⟩; (case l => first | k_is | (refine Eq.trans (b := some _) (by k_is) ?_; rfl)); (case c => k_is); (case k => k_is))
    (case a__law_nested => k_is)
    (case d__law_nested => refine' ⟨⟨_, _, _, _, _, _, _, _, _, ?l, ?c⟩, ?k⟩; (case l => first | k_is | (refine Eq.trans (b := some _) (by k_is) ?_; rfl)); (case c => k_is); (case k => k_is))
    (case a__law_right => k_is)
    (case d__law_right => refine' ⟨⟨_, _, _, _, _, _, _, _, _, ?l, ?c⟩, ?k⟩; (case l => first | k_is | (refine Eq.trans (b := some _) (by k_is) ?_; rfl)); (case c => k_is); (case k => k_is))
    (case a_law => k_is)
    (case d_law => refine' ⟨⟨_, _, _, _, _, _, _, _, _, ?l, ?c⟩, ?k⟩; (case l => first | k_is | (refine Eq.trans (b := some _) (by k_is) ?_; rfl)); (case c => k_is); (case k => k_is))
    (case nd => decide)

import PyProof.Rows.All
import Wide.All
import OpenK.AllK
import Wide.FinOn
import HandS.ForMost
import HandS.Zip
import HandS.Gcd
import HandS.Wide
import HandS.IsInst
import HandS.TupAny
import HandS.Style
import HandS.Evl
import HandS.Exc
import HandS.ExcInit
import HandS.ExcOwn
import HandS.TryOnly
import HandS.TryMany
import HandS.WordsExc
import KE.GoesEnum
import KE.GoesMore
import HandS.TupMul
import HandS.ExcField
import HandS.OwnEq
import HandS.Zip0
import KE.KDictZip
import HandS.WrittenGet
import KE.DataMinMax
import KE.GoesZip
import HandS.Star
import HandS.Deep
import PyProof.P3In
import HandS.Conv
import HandS.RaiseMore
import PyProof.TupleOfSeq
import PyProof.Rows.SortWalk
import PySem.Challenge.RW_unitgrids_k20_whole_outcomes_step_by_ste
set_option Elab.async false
set_option linter.all false
set_option maxRecDepth 100000
set_option maxHeartbeats 4000000
namespace PD
open PySem PySem.Spec PyProof.Rows L2
/-- plain data: what a value says, whatever its addresses are; st: the one list that a law draws from -/
inductive D where
  | non | bl (b : Bool) | int (i : Int) | str (x : Str) | ty (n : String)
  | tup (xs : List D) | lst (xs : List D) | st | obj (a : Addr)
  /-- a dict, whatever is in it; an instance of the class at C: its fields' names and what they hold -/
  | dct | ins (C : Addr) (ns : List Str) (ds : List D)
  /-- a caught exception: its own dict's place, names and data -/
  | exc (a dx : Addr) (ns : List Str) (ds : List D)
  /-- an exception held as a value: its class, its fields' names and data -/
  | xob (C : Addr) (ns : List Str) (ds : List D)
  /-- a dict by its keys, ints and texts, in order, and what they lead to -/
  | dic (ks : List Key) (ds : List D)
abbrev DS := List (Option D)
structure Wd where
  K : PySem.W.Frag
  s : Option Addr
  b : Addr
/-- the two lists that change while a law draws -/
def Wd.S (W : Wd) (a : Addr) : Prop := W.s = some a ∨ (W.s ≠ none ∧ a = W.b)
theorem Wd.noS {W : Wd} {a : Addr} (h : W.s = none) (e : W.S a) : False := by
  rcases e with e | ⟨e, _⟩
  · rw [h] at e; cases e
  · exact e h
theorem Wd.S_of {W : Wd} {a s : Addr} (h : W.s = some s) (e : a = s) : W.S a := .inl (by rw [h, e])
theorem Wd.S_b {W : Wd} {a s : Addr} (h : W.s = some s) (e : a = W.b) : W.S a := .inr ⟨by rw [h]; simp, e⟩
mutual
inductive Rep (W : Wd) (M : Addr → Prop) (H : Hp) : V → D → Prop
  | non : Rep W M H .non .non
  | bl (b : Bool) : Rep W M H (.bl b) (.bl b)
  | int (i : Int) : Rep W M H (.int i) (.int i)
  | str (x : Str) : Rep W M H (.str x) (.str x)
  | ty (n : String) : Rep W M H (.ty n) (.ty n)
  | tup {a : Addr} {vs : List V} {ds : List D} : SqT W.K H a vs → Reps W M H vs ds → Rep W M H (.ref a) (.tup ds)
  | lst {a : Addr} {vs : List V} {ds : List D} : ¬ M a → H a = some (.lst vs) → Reps W M H vs ds → Rep W M H (.ref a) (.lst ds)
  | st {a : Addr} : W.s = some a → Rep W M H (.ref a) .st
  | obj (a : Addr) : Rep W M H (.ref a) (.obj a)
  | dct {a : Addr} {kvs : List (Key × V)} : ¬ M a → H a = some (.dK kvs) → Rep W M H (.ref a) .dct
  | ins {a C dx : Addr} {fs : List (Str × V)} {ns : List Str} {ds : List D} : ¬ M a → H a = some (.ins C dx fs) → fs.map (·.1) = ns → Reps W M H (fs.map (·.2)) ds → Rep W M H (.ref a) (.ins C ns ds)
  | exc {a dx : Addr} {fs : List (Str × V)} {ns : List Str} {ds : List D} : ¬ M dx → H dx = some (.xd fs) → fs.map (·.1) = ns → Reps W M H (fs.map (·.2)) ds → Rep W M H (.ref a) (.exc a dx ns ds)
  | xob0 {a C : Addr} : ¬ M a → H a = some (exo a C none) → Rep W M H (.ref a) (.xob C [] [])
  | xob {a C dx : Addr} {fs : List (Str × V)} {ns : List Str} {ds : List D} : ¬ M a → H a = some (exo a C (some dx)) → ¬ M dx → H dx = some (exd dx fs) → fs.map (·.1) = ns → Reps W M H (fs.map (·.2)) ds → Rep W M H (.ref a) (.xob C ns ds)
  | dic {a : Addr} {kvs : List (Key × V)} {ks : List Key} {ds : List D} : ¬ M a → H a = some (.dK kvs) → kvs.map (·.1) = ks → Reps W M H (kvs.map (·.2)) ds → Rep W M H (.ref a) (.dic ks ds)
inductive Reps (W : Wd) (M : Addr → Prop) (H : Hp) : List V → List D → Prop
  | nil : Reps W M H [] []
  | cons {v : V} {vs : List V} {d : D} {ds : List D} : Rep W M H v d → Reps W M H vs ds → Reps W M H (v :: vs) (d :: ds)
end
theorem Reps.length {W : Wd} {M : Addr → Prop} {H : Hp} : ∀ {vs : List V} {ds : List D}, Reps W M H vs ds → vs.length = ds.length
  | _, _, .nil => rfl
  | _, _, .cons _ t => by
    show _ + 1 = _ + 1
    rw [t.length]
theorem Reps.get {W : Wd} {M : Addr → Prop} {H : Hp} : ∀ {vs : List V} {ds : List D} {i : Nat} {d : D}, Reps W M H vs ds → ds[i]? = some d → ∃ v, vs[i]? = some v ∧ Rep W M H v d
  | _, _, _, _, .nil, e => by simp at e
  | _, _, 0, _, .cons r _, e => by
    simp at e
    subst e
    exact ⟨_, rfl, r⟩
  | _, _, i + 1, d, .cons _ t, e => by
    obtain ⟨v, h1, h2⟩ := Reps.get (i := i) (d := d) t (by simpa using e)
    exact ⟨v, by simpa using h1, h2⟩
theorem Reps.got {W : Wd} {M : Addr → Prop} {H : Hp} : ∀ {vs : List V} {ds : List D} {i : Nat} {v : V}, Reps W M H vs ds → vs[i]? = some v → ∃ d, ds[i]? = some d ∧ Rep W M H v d
  | _, _, _, _, .nil, e => by simp at e
  | _, _, 0, _, .cons r _, e => by
    simp at e
    subst e
    exact ⟨_, rfl, r⟩
  | _, _, i + 1, v, .cons _ t, e => by
    obtain ⟨d, h1, h2⟩ := Reps.got (i := i) (v := v) t (by simpa using e)
    exact ⟨d, by simpa using h1, h2⟩
theorem Reps.append {W : Wd} {M : Addr → Prop} {H : Hp} : ∀ {vs us : List V} {ds es : List D}, Reps W M H vs ds → Reps W M H us es → Reps W M H (vs ++ us) (ds ++ es)
  | _, _, _, _, .nil, s => s
  | _, _, _, _, .cons r t, s => .cons r (t.append s)
/-- the list that a law draws from: [the script, the place, what is left, the mix] -/
def StAt (b : Addr) (H : Hp) (s : Addr) : Prop := ∃ (ns : List Int) (i c : Int) (m : Unit), H s = some (.lst [.ref b, .int i, .int c]) ∧ b ≠ s ∧ H b = some (.lst (ns.map V.int)) ∧ 0 ≤ i ∧ 0 ≤ c ∧ 1 ≤ ns.length ∧ ns.length ≤ 63 ∧ ∀ n ∈ ns, 0 ≤ n
def StOk (W : Wd) (H : Hp) : Prop := ∀ s, W.s = some s → StAt W.b H s
theorem StOk.at {W : Wd} {H : Hp} {a : Addr} (g : StOk W H) (e : W.S a) : ∃ vs, H a = some (.lst vs) := by
  rcases e with e | ⟨e1, e2⟩
  · obtain ⟨_, _, _, _, q1, _⟩ := g a e
    exact ⟨_, q1⟩
  · cases h : W.s with
    | none => exact absurd h e1
    | some s =>
      obtain ⟨_, _, _, _, _, _, q2, _⟩ := g s h
      exact ⟨_, by rw [e2]; exact q2⟩
def Keep (W : Wd) (H H' : Hp) : Prop := ∀ a o, ¬ W.S a → H a = some o → H' a = some o
structure Wf (W : Wd) (M : Addr → Prop) (H : Hp) : Prop where
  g : StOk W H
  sm : ∀ a, W.S a → M a
  dom : ∀ a, M a → ∃ o, H a = some o
structure Wg (W : Wd) (M : Addr → Prop) (H : Hp) : Prop where
  g : StOk W H
  sm : ∀ a, W.S a → M a
theorem Wf.wg {W : Wd} {M : Addr → Prop} {H : Hp} (w : Wf W M H) : Wg W M H := ⟨w.g, w.sm⟩
theorem Keep.refl {W : Wd} (H : Hp) : Keep W H H := fun _ _ _ h => h
theorem Keep.trans {W : Wd} {H H1 H2 : Hp} (a : Keep W H H1) (b : Keep W H1 H2) : Keep W H H2 := fun x o n h => b x o n (a x o n h)
theorem Keep.new {W : Wd} {H : Hp} {p : Addr} {o : HO} (h : H p = none) : Keep W H (upd H p o) := fun a u _ e => by
  rw [upd_ne (ne_of_none e h)]
  exact e
theorem StAt.new {b : Addr} {H : Hp} {s p : Addr} {o : HO} (h : H p = none) (g : StAt b H s) : StAt b (upd H p o) s := by
  obtain ⟨ns, i, c, m, h1, h2, h3, r⟩ := g
  exact ⟨ns, i, c, m, by rw [upd_ne (ne_of_none h1 h)]; exact h1, h2, by rw [upd_ne (ne_of_none h3 h)]; exact h3, r⟩
theorem StOk.new {W : Wd} {H : Hp} {p : Addr} {o : HO} (h : H p = none) (g : StOk W H) : StOk W (upd H p o) := fun s e => (g s e).new h
section
variable {W : Wd} {M M' : Addr → Prop} {H H' : Hp}
theorem Wf.next (w : Wf W M H) (g : StOk W H') (k : Keep W H H') : Wf W M H' := ⟨g, w.sm, fun a ha => by
  by_cases e : W.S a
  · obtain ⟨_, h⟩ := StOk.at g e
    exact ⟨_, h⟩
  · obtain ⟨o, ho⟩ := w.dom a ha
    exact ⟨o, k a o e ho⟩⟩
theorem sqT_keep (w : Wg W M H) (k : Keep W H H') {a : Addr} {vs : List V} (h : SqT W.K H a vs) : SqT W.K H' a vs := by
  rcases h with (h | ⟨o, h⟩) | h
  · refine .inl (.inl (k a _ (fun e => ?_) h))
    obtain ⟨_, q⟩ := StOk.at w.g e
    rw [q] at h
    cases h
  · refine .inl (.inr ⟨o, k a _ (fun e => ?_) h⟩)
    obtain ⟨_, q⟩ := StOk.at w.g e
    rw [q] at h
    cases h
  · exact .inr h
theorem rdL_keep (w : Wg W M H) (k : Keep W H H') {a : Addr} {vs : List V} (n : ¬ M a) (h : H a = some (.lst vs)) : H' a = some (.lst vs) := k a _ (fun e => n (w.sm a e)) h
mutual
theorem Rep.keepG (w : Wg W M H) (k : Keep W H H') : ∀ {v : V} {d : D}, Rep W M H v d → Rep W M H' v d
  | _, _, .non => .non
  | _, _, .bl b => .bl b
  | _, _, .int i => .int i
  | _, _, .str x => .str x
  | _, _, .ty n => .ty n
  | _, _, .tup h r => .tup (sqT_keep w k h) (r.keepG w k)
  | _, _, .lst n h r => .lst n (rdL_keep w k n h) (r.keepG w k)
  | _, _, .st e => .st e
  | _, _, .obj a => .obj a
  | _, _, .dct n h => .dct n (k _ _ (fun e => n (w.sm _ e)) h)
  | _, _, .ins n h e r => .ins n (k _ _ (fun e => n (w.sm _ e)) h) e (r.keepG w k)
  | _, _, .exc n h e r => .exc n (k _ _ (fun e => n (w.sm _ e)) h) e (r.keepG w k)
  | _, _, .xob0 n h => .xob0 n (k _ _ (fun e => n (w.sm _ e)) h)
  | _, _, .xob n h n2 h2 e r => .xob n (k _ _ (fun e => n (w.sm _ e)) h) n2 (k _ _ (fun e => n2 (w.sm _ e)) h2) e (r.keepG w k)
  | _, _, .dic n h e r => .dic n (k _ _ (fun e => n (w.sm _ e)) h) e (r.keepG w k)
theorem Reps.keepG (w : Wg W M H) (k : Keep W H H') : ∀ {vs : List V} {ds : List D}, Reps W M H vs ds → Reps W M H' vs ds
  | _, _, .nil => .nil
  | _, _, .cons r t => .cons (r.keepG w k) (t.keepG w k)
end
theorem Rep.keep (w : Wf W M H) (k : Keep W H H') {v : V} {d : D} (r : Rep W M H v d) : Rep W M H' v d := r.keepG w.wg k
theorem Reps.keep (w : Wf W M H) (k : Keep W H H') {vs : List V} {ds : List D} (r : Reps W M H vs ds) : Reps W M H' vs ds := r.keepG w.wg k
/-- a list that may turn turns: the rest stands -/
theorem sqT_upd {p : Addr} {o : HO} (hp : ∀ a vs, Rd H a (.tup vs) → a ≠ p) {a : Addr} {vs : List V} (h : SqT W.K H a vs) : SqT W.K (upd H p o) a vs := by
  rcases h with h | h
  · have e := hp a vs h
    rcases h with h | ⟨u, h⟩
    · exact .inl (.inl (by rw [upd_ne e]; exact h))
    · exact .inl (.inr ⟨u, by rw [upd_ne e]; exact h⟩)
  · exact .inr h
theorem rdT_lst {p : Addr} {xs : List V} (hp : H p = some (.lst xs)) : ∀ a vs, Rd H a (.tup vs) → a ≠ p := fun a vs h => by
  rcases h with h | ⟨u, h⟩
  · exact ne_of h hp (by intro z; cases z)
  · exact ne_of h hp (by intro z; cases z)
theorem rdT_ins {p C dx : Addr} {fs : List (Str × V)} (hp : H p = some (.ins C dx fs)) : ∀ a vs, Rd H a (.tup vs) → a ≠ p := fun a vs h => by
  rcases h with h | ⟨u, h⟩
  · exact ne_of h hp (by intro z; cases z)
  · exact ne_of h hp (by intro z; cases z)
theorem rdL_upd {p : Addr} {o : HO} {a : Addr} {vs : List V} (hp : M p) (n : ¬ M a) (h : H a = some (.lst vs)) : upd H p o a = some (.lst vs) := by
  have e : a ≠ p := fun z => n (by rw [z]; exact hp)
  rw [upd_ne e]
  exact h
theorem atU_upd {p : Addr} {o u : HO} {a : Addr} (hp : M p) (n : ¬ M a) (h : H a = some u) : upd H p o a = some u := by
  have e : a ≠ p := fun z => n (by rw [z]; exact hp)
  rw [upd_ne e]
  exact h
mutual
theorem Rep.upd {p : Addr} {o : HO} (hp : ∀ a vs, Rd H a (.tup vs) → a ≠ p) (hm : M p) : ∀ {v : V} {d : D}, Rep W M H v d → Rep W M (upd H p o) v d
  | _, _, .non => .non
  | _, _, .bl b => .bl b
  | _, _, .int i => .int i
  | _, _, .str x => .str x
  | _, _, .ty n => .ty n
  | _, _, .tup h r => .tup (sqT_upd hp h) (r.upd hp hm)
  | _, _, .lst n h r => .lst n (rdL_upd hm n h) (r.upd hp hm)
  | _, _, .st e => .st e
  | _, _, .obj a => .obj a
  | _, _, .dct n h => .dct n (atU_upd hm n h)
  | _, _, .ins n h e r => .ins n (atU_upd hm n h) e (r.upd hp hm)
  | _, _, .exc n h e r => .exc n (atU_upd hm n h) e (r.upd hp hm)
  | _, _, .xob0 n h => .xob0 n (atU_upd hm n h)
  | _, _, .xob n h n2 h2 e r => .xob n (atU_upd hm n h) n2 (atU_upd hm n2 h2) e (r.upd hp hm)
  | _, _, .dic n h e r => .dic n (atU_upd hm n h) e (r.upd hp hm)
theorem Reps.upd {p : Addr} {o : HO} (hp : ∀ a vs, Rd H a (.tup vs) → a ≠ p) (hm : M p) : ∀ {vs : List V} {ds : List D}, Reps W M H vs ds → Reps W M (upd H p o) vs ds
  | _, _, .nil => .nil
  | _, _, .cons r t => .cons (r.upd hp hm) (t.upd hp hm)
end
mutual
theorem Rep.anti (m : ∀ a, M' a → M a) : ∀ {v : V} {d : D}, Rep W M H v d → Rep W M' H v d
  | _, _, .non => .non
  | _, _, .bl b => .bl b
  | _, _, .int i => .int i
  | _, _, .str x => .str x
  | _, _, .ty n => .ty n
  | _, _, .tup h r => .tup h (r.anti m)
  | _, _, .lst n h r => .lst (fun x => n (m _ x)) h (r.anti m)
  | _, _, .st e => .st e
  | _, _, .obj a => .obj a
  | _, _, .dct n h => .dct (fun x => n (m _ x)) h
  | _, _, .ins n h e r => .ins (fun x => n (m _ x)) h e (r.anti m)
  | _, _, .exc n h e r => .exc (fun x => n (m _ x)) h e (r.anti m)
  | _, _, .xob0 n h => .xob0 (fun x => n (m _ x)) h
  | _, _, .xob n h n2 h2 e r => .xob (fun x => n (m _ x)) h (fun x => n2 (m _ x)) h2 e (r.anti m)
  | _, _, .dic n h e r => .dic (fun x => n (m _ x)) h e (r.anti m)
theorem Reps.anti (m : ∀ a, M' a → M a) : ∀ {vs : List V} {ds : List D}, Reps W M H vs ds → Reps W M' H vs ds
  | _, _, .nil => .nil
  | _, _, .cons r t => .cons (r.anti m) (t.anti m)
end
mutual
theorem Rep.more (n : ∀ a, M' a → ¬ M a → H a = none) : ∀ {v : V} {d : D}, Rep W M H v d → Rep W M' H v d
  | _, _, .non => .non
  | _, _, .bl b => .bl b
  | _, _, .int i => .int i
  | _, _, .str x => .str x
  | _, _, .ty n => .ty n
  | _, _, .tup h r => .tup h (r.more n)
  | _, _, .lst na h r => .lst (fun x => by
      rw [n _ x na] at h
      cases h) h (r.more n)
  | _, _, .st e => .st e
  | _, _, .obj a => .obj a
  | _, _, .dct na h => .dct (fun x => by
      rw [n _ x na] at h
      cases h) h
  | _, _, .ins na h e r => .ins (fun x => by
      rw [n _ x na] at h
      cases h) h e (r.more n)
  | _, _, .exc na h e r => .exc (fun x => by
      rw [n _ x na] at h
      cases h) h e (r.more n)
  | _, _, .xob0 na h => .xob0 (fun x => by
      rw [n _ x na] at h
      cases h) h
  | _, _, .xob na h n2 h2 e r => .xob (fun x => by
      rw [n _ x na] at h
      cases h) h (fun x => by
      rw [n _ x n2] at h2
      cases h2) h2 e (r.more n)
  | _, _, .dic na h e r => .dic (fun x => by
      rw [n _ x na] at h
      cases h) h e (r.more n)
theorem Reps.more (n : ∀ a, M' a → ¬ M a → H a = none) : ∀ {vs : List V} {ds : List D}, Reps W M H vs ds → Reps W M' H vs ds
  | _, _, .nil => .nil
  | _, _, .cons r t => .cons (r.more n) (t.more n)
end
/-- all stands, but for lists of M -/
def KeepM (W : Wd) (M : Addr → Prop) (H H' : Hp) : Prop := ∀ a o, ¬ W.S a → (M a → ∀ vs, o ≠ .lst vs) → H a = some o → H' a = some o
theorem KeepM.mono (k : KeepM W M H H') (m : ∀ a, M a → M' a) : KeepM W M' H H' := fun a o n l h => k a o n (fun x => l (m a x)) h
theorem Keep.toM (k : Keep W H H') : KeepM W M H H' := fun a o n _ h => k a o n h
theorem sqT_keepM (w : Wg W M H) (k : KeepM W M H H') {a : Addr} {vs : List V} (h : SqT W.K H a vs) : SqT W.K H' a vs := by
  have no : ∀ {o : HO}, H a = some o → (∀ xs, o ≠ .lst xs) → ¬ W.S a := fun {o} h n e => by
    obtain ⟨_, q⟩ := StOk.at w.g e
    rw [h] at q
    exact n _ (Option.some.inj q)
  rcases h with (h | ⟨o, h⟩) | h
  · exact .inl (.inl (k a _ (no h fun _ z => by cases z) (fun _ _ z => by cases z) h))
  · exact .inl (.inr ⟨o, k a _ (no h fun _ z => by cases z) (fun _ _ z => by cases z) h⟩)
  · exact .inr h
theorem rdL_keepM (w : Wg W M H) (k : KeepM W M H H') {a : Addr} {vs : List V} (n : ¬ M a) (h : H a = some (.lst vs)) : H' a = some (.lst vs) := k a _ (fun e => n (w.sm a e)) (fun m => absurd m n) h
mutual
theorem Rep.keepM (w : Wg W M H) (k : KeepM W M H H') : ∀ {v : V} {d : D}, Rep W M H v d → Rep W M H' v d
  | _, _, .non => .non
  | _, _, .bl b => .bl b
  | _, _, .int i => .int i
  | _, _, .str x => .str x
  | _, _, .ty n => .ty n
  | _, _, .tup h r => .tup (sqT_keepM w k h) (r.keepM w k)
  | _, _, .lst n h r => .lst n (rdL_keepM w k n h) (r.keepM w k)
  | _, _, .st e => .st e
  | _, _, .obj a => .obj a
  | _, _, .dct n h => .dct n (k _ _ (fun e => n (w.sm _ e)) (fun m => absurd m n) h)
  | _, _, .ins n h e r => .ins n (k _ _ (fun e => n (w.sm _ e)) (fun m => absurd m n) h) e (r.keepM w k)
  | _, _, .exc n h e r => .exc n (k _ _ (fun e => n (w.sm _ e)) (fun m => absurd m n) h) e (r.keepM w k)
  | _, _, .xob0 n h => .xob0 n (k _ _ (fun e => n (w.sm _ e)) (fun m => absurd m n) h)
  | _, _, .xob n h n2 h2 e r => .xob n (k _ _ (fun e => n (w.sm _ e)) (fun m => absurd m n) h) n2 (k _ _ (fun e => n2 (w.sm _ e)) (fun m => absurd m n2) h2) e (r.keepM w k)
  | _, _, .dic n h e r => .dic n (k _ _ (fun e => n (w.sm _ e)) (fun m => absurd m n) h) e (r.keepM w k)
theorem Reps.keepM (w : Wg W M H) (k : KeepM W M H H') : ∀ {vs : List V} {ds : List D}, Reps W M H vs ds → Reps W M H' vs ds
  | _, _, .nil => .nil
  | _, _, .cons r t => .cons (r.keepM w k) (t.keepM w k)
end
end
end PD
namespace PD
abbrev Fr := Int × Int
def gcdI (a b : Int) : Nat := Nat.gcd a.natAbs b.natAbs
def lowF (a b : Int) : Fr := (a / (gcdI a b : Int), b / (gcdI a b : Int))
def IsF (p : Fr) : Prop := 1 ≤ p.2 ∧ gcdI p.1 p.2 = 1
def addF (p q : Fr) : Fr := lowF (p.1 * q.2 + q.1 * p.2) (p.2 * q.2)
def mulF (p q : Fr) : Fr := lowF (p.1 * q.1) (p.2 * q.2)
theorem gcdI_pos {a b : Int} (h : b ≠ 0) : 0 < gcdI a b := Nat.gcd_pos_of_pos_right _ (by omega)
theorem gcdI_dvd1 (a b : Int) : ((gcdI a b : Nat) : Int) ∣ a := Int.ofNat_dvd_left.mpr (Nat.gcd_dvd_left _ _)
theorem gcdI_dvd2 (a b : Int) : ((gcdI a b : Nat) : Int) ∣ b := Int.ofNat_dvd_left.mpr (Nat.gcd_dvd_right _ _)
theorem gcdI_le {a b : Int} (h : b ≠ 0) : gcdI a b ≤ b.natAbs := Nat.le_of_dvd (by omega) (Nat.gcd_dvd_right _ _)
theorem lowF_isF {a b : Int} (h : 0 < b) : IsF (lowF a b) := by
  have hg : 0 < gcdI a b := gcdI_pos (by omega)
  have d1 := gcdI_dvd1 a b
  have d2 := gcdI_dvd2 a b
  constructor
  · show 1 ≤ b / (gcdI a b : Int)
    have : (gcdI a b : Int) ≤ b := Int.le_of_dvd h d2
    have := (Int.le_ediv_iff_mul_le (a := 1) (b := b) (c := (gcdI a b : Int)) (by omega)).mpr (by omega)
    exact this
  · show Nat.gcd (a / (gcdI a b : Int)).natAbs (b / (gcdI a b : Int)).natAbs = 1
    rw [Int.natAbs_ediv_of_dvd d1, Int.natAbs_ediv_of_dvd d2]
    show Nat.gcd (a.natAbs / gcdI a b) (b.natAbs / gcdI a b) = 1
    exact Nat.coprime_div_gcd_div_gcd hg
theorem lowF_cross {a b : Int} (h : 0 < b) : (lowF a b).1 * b = a * (lowF a b).2 := by
  obtain ⟨x, hx⟩ := gcdI_dvd1 a b
  obtain ⟨y, hy⟩ := gcdI_dvd2 a b
  have hg : (gcdI a b : Int) ≠ 0 := by have := gcdI_pos (a := a) (b := b) (by omega); omega
  show a / (gcdI a b : Int) * b = a * (b / (gcdI a b : Int))
  have e1 : a / (gcdI a b : Int) = x := by
    conv => lhs; rw [show a / (gcdI a b : Int) = ((gcdI a b : Int) * x) / (gcdI a b : Int) by rw [← hx]]
    exact Int.mul_ediv_cancel_left x hg
  have e2 : b / (gcdI a b : Int) = y := by
    conv => lhs; rw [show b / (gcdI a b : Int) = ((gcdI a b : Int) * y) / (gcdI a b : Int) by rw [← hy]]
    exact Int.mul_ediv_cancel_left y hg
  rw [e1, e2]
  generalize (gcdI a b : Int) = g at *
  rw [hx, hy]
  grind
theorem cross_dvd {a b c d : Int} (h : gcdI a b = 1) (e : a * d = c * b) : b ∣ d := by
  have h1 : b.natAbs ∣ a.natAbs * d.natAbs := by
    rw [← Int.natAbs_mul, e, Int.natAbs_mul]
    exact Nat.dvd_mul_left _ _
  have h2 : Nat.Coprime b.natAbs a.natAbs := by
    show Nat.gcd _ _ = 1
    rw [Nat.gcd_comm]
    exact h
  exact Int.natAbs_dvd_natAbs.mp (h2.dvd_of_dvd_mul_left h1)
theorem isF_inj {p q : Fr} (hp : IsF p) (hq : IsF q) (e : p.1 * q.2 = q.1 * p.2) : p = q := by
  obtain ⟨a, b⟩ := p
  obtain ⟨c, d⟩ := q
  obtain ⟨hb, hp⟩ := hp
  obtain ⟨hd, hq⟩ := hq
  simp only at *
  have d1 : b ∣ d := cross_dvd hp e
  have d2 : d ∣ b := cross_dvd (a := c) (b := d) (c := a) (d := b) hq e.symm
  have e2 : b = d := Int.dvd_antisymm (by omega) (by omega) d1 d2
  subst e2
  have e3 : a = c := Int.eq_of_mul_eq_mul_right (by omega) e
  rw [e3]
theorem addF_isF {p q : Fr} (hp : IsF p) (hq : IsF q) : IsF (addF p q) := lowF_isF (Int.mul_pos (by have := hp.1; omega) (by have := hq.1; omega))
end PD
namespace PD
def toQ (p : Fr) : Rat := Rat.divInt p.1 p.2
theorem toQ_inj {p q : Fr} (hp : IsF p) (hq : IsF q) (e : toQ p = toQ q) : p = q :=
  isF_inj hp hq ((Rat.divInt_eq_divInt_iff (by have := hp.1; omega) (by have := hq.1; omega)).mp e)
theorem toQ_low {a b : Int} (h : 0 < b) : toQ (lowF a b) = Rat.divInt a b :=
  (Rat.divInt_eq_divInt_iff (by have := (lowF_isF (a := a) h).1; omega) (by omega)).mpr (lowF_cross h)
theorem toQ_mul {p q : Fr} (hp : 0 < p.2) (hq : 0 < q.2) : toQ (mulF p q) = toQ p * toQ q := by
  unfold mulF
  rw [toQ_low (Int.mul_pos hp hq)]
  exact (Rat.divInt_mul_divInt _ _).symm
end PD
namespace PD
open PySem PySem.Spec PyProof.Rows L2
structure Slots (W : Wd) (M : Addr → Prop) (H : Hp) (σ : L2.St) (δ : DS) : Prop where
  len : σ.length = δ.length
  get : ∀ (i : Nat) (d : D), δ[i]? = some (some d) → ∃ v, σ[i]? = some (some v) ∧ Rep W M H v d
structure Pre (W : Wd) (M : Addr → Prop) (δ : DS) (σ : L2.St) (H : Hp) : Prop where
  wf : Wf W M H
  sl : Slots W M H σ δ
theorem Slots.set {W : Wd} {M : Addr → Prop} {H : Hp} {σ : L2.St} {δ : DS} (s : Slots W M H σ δ) (i : Nat) {v : V} {d : D} (r : Rep W M H v d) : Slots W M H (σ.set i (some v)) (δ.set i (some d)) where
  len := by rw [List.length_set, List.length_set]; exact s.len
  get := fun j e h => by
    by_cases hj : i = j
    · subst hj
      rw [List.getElem?_set] at h
      rw [List.getElem?_set]
      by_cases hl : i < δ.length
      · rw [if_pos rfl, if_pos hl] at h
        rw [if_pos rfl, if_pos (by rw [s.len]; exact hl)]
        have e1 : d = e := Option.some.inj (Option.some.inj h)
        subst e1
        exact ⟨v, rfl, r⟩
      · rw [if_pos rfl, if_neg hl] at h
        cases h
    · rw [List.getElem?_set, if_neg hj] at h
      rw [List.getElem?_set, if_neg hj]
      exact s.get j e h
/-- a slot of which nothing is said -/
theorem Slots.drop {W : Wd} {M : Addr → Prop} {H : Hp} {σ : L2.St} {δ : DS} (s : Slots W M H σ δ) (i : Nat) (x : Option V) : Slots W M H (σ.set i x) (δ.set i none) where
  len := by rw [List.length_set, List.length_set]; exact s.len
  get := fun j e h => by
    by_cases hj : i = j
    · subst hj
      rw [List.getElem?_set] at h
      by_cases hl : i < δ.length
      · rw [if_pos rfl, if_pos hl] at h
        cases h
      · rw [if_pos rfl, if_neg hl] at h
        cases h
    · rw [List.getElem?_set, if_neg hj] at h
      rw [List.getElem?_set, if_neg hj]
      exact s.get j e h
theorem Pre.next {W : Wd} {M : Addr → Prop} {δ : DS} {σ : L2.St} {H H' : Hp} (p : Pre W M δ σ H) (g : StOk W H') (k : Keep W H H') : Pre W M δ σ H' :=
  ⟨p.wf.next g k, p.sl.len, fun i d h => by
    obtain ⟨v, h1, h2⟩ := p.sl.get i d h
    exact ⟨v, h1, h2.keep p.wf k⟩⟩
def wipeD (δ : DS) : List Nat → DS
  | [] => δ
  | v :: vs => (wipeD δ vs).set v none
theorem Slots.wipe {W : Wd} {M : Addr → Prop} {H : Hp} {σ : L2.St} {δ : DS} (s : Slots W M H σ δ) : ∀ vs : List Nat, Slots W M H (L2.wipe σ vs) (wipeD δ vs)
  | [] => s
  | v :: vs => (s.wipe vs).drop v none
def EvD (W : Wd) (te : TE) (δ : DS) (P : D → Prop) : Prop := ∀ (M : Addr → Prop) (σ : L2.St) (H : Hp), Pre W M δ σ H → ∀ Q : VK, (∀ v d H', StOk W H' → Keep W H H' → Rep W M H' v d → P d → Q v H') → te σ H Q
def EvT (W : Wd) (tt : TT) (δ : DS) (P : Bool → Prop) : Prop := ∀ (M : Addr → Prop) (σ : L2.St) (H : Hp), Pre W M δ σ H → ∀ Q : Bool → Hp → Prop, (∀ b H', StOk W H' → Keep W H H' → P b → Q b H') → tt σ H Q
def EvA (W : Wd) (ta : TA) (δ : DS) (P : List D → Prop) : Prop := ∀ (M : Addr → Prop) (σ : L2.St) (H : Hp), Pre W M δ σ H → ∀ Q : List V → Hp → Prop, (∀ vs ds H', StOk W H' → Keep W H H' → Reps W M H' vs ds → P ds → Q vs H') → ta σ H Q
def RD (W : Wd) (r : R2) (x y : D) (P : D → Prop) : Prop := ∀ (M : Addr → Prop) (H : Hp) (v u : V), Wf W M H → Rep W M H v x → Rep W M H u y → ∀ Q : VK, (∀ z d H', StOk W H' → Keep W H H' → Rep W M H' z d → P d → Q z H') → r v u H Q
def RUD (W : Wd) (r : V → Hp → VK → Prop) (x : D) (P : D → Prop) : Prop := ∀ (M : Addr → Prop) (H : Hp) (v : V), Wf W M H → Rep W M H v x → ∀ Q : VK, (∀ z d H', StOk W H' → Keep W H H' → Rep W M H' z d → P d → Q z H') → r v H Q
def RCD (W : Wd) (r : List V → Hp → VK → Prop) (xs : List D) (P : D → Prop) : Prop := ∀ (M : Addr → Prop) (H : Hp) (vs : List V), Wf W M H → Reps W M H vs xs → ∀ Q : VK, (∀ z d H', StOk W H' → Keep W H H' → Rep W M H' z d → P d → Q z H') → r vs H Q
section
variable {W : Wd} {δ : DS} {P : D → Prop} {ta tb te : TE} {t u : TT}
theorem ev_mono {P' : D → Prop} (h : EvD W te δ P) (k : ∀ d, P d → P' d) : EvD W te δ P' := fun M σ H p Q q => h M σ H p Q fun v d H' g kp r hP => q v d H' g kp r (k d hP)
theorem ev_var {i : Nat} {d : D} (h : δ[i]? = some (some d)) (hP : P d) : EvD W (tVar i) δ P := fun M σ H p Q q => by
  obtain ⟨v, h1, h2⟩ := p.sl.get i d h
  exact ⟨v, h1, q v d H p.wf.g (Keep.refl H) h2 hP⟩
theorem ev_c {v : V} {d : D} (hr : ∀ M H, Rep W M H v d) (hP : P d) : EvD W (tC v) δ P := fun M σ H p Q q => q v d H p.wf.g (Keep.refl H) (hr M H) hP
theorem ev_int {i : Int} (hP : P (.int i)) : EvD W (tC (.int i)) δ P := ev_c (fun _ _ => .int i) hP
theorem ev_bl {b : Bool} (hP : P (.bl b)) : EvD W (tC (.bl b)) δ P := ev_c (fun _ _ => .bl b) hP
theorem ev_non (hP : P .non) : EvD W (tC .non) δ P := ev_c (fun _ _ => .non) hP
theorem ev_str {x : Str} (hP : P (.str x)) : EvD W (tC (.str x)) δ P := ev_c (fun _ _ => .str x) hP
theorem ev_ty {n : String} (hP : P (.ty n)) : EvD W (tC (.ty n)) δ P := ev_c (fun _ _ => .ty n) hP
theorem ev_op {r : R2} (h : EvD W ta δ fun x => EvD W tb δ fun y => RD W r x y P) : EvD W (tOp r ta tb) δ P := fun M σ H p Q q =>
  h M σ H p _ fun v x H1 g1 k1 r1 h1 => h1 M σ H1 (p.next g1 k1) _ fun u y H2 g2 k2 r2 h2 =>
    h2 M H2 v u ((p.wf.next g1 k1).next g2 k2) (r1.keep (p.wf.next g1 k1) k2) r2 Q fun z d H3 g3 k3 r3 h3 => q z d H3 g3 ((k1.trans k2).trans k3) r3 h3
theorem ev_un {r : V → Hp → VK → Prop} (h : EvD W ta δ fun x => RUD W r x P) : EvD W (tUn r ta) δ P := fun M σ H p Q q =>
  h M σ H p _ fun v x H1 g1 k1 r1 h1 => h1 M H1 v (p.wf.next g1 k1) r1 Q fun z d H3 g3 k3 r3 h3 => q z d H3 g3 (k1.trans k3) r3 h3
theorem ev_chain {r r' : R2} {tc : TE} (h : EvD W ta δ fun x => EvD W tb δ fun y => RD W r x y fun z => ∃ k, z = .bl k ∧ (k = true → EvD W tc δ fun c => RD W r' y c P) ∧ (k = false → P (.bl false))) : EvD W (tChain r r' ta tb tc) δ P := fun M σ H p Q q =>
  h M σ H p _ fun v x H1 g1 k1 r1 h1 => h1 M σ H1 (p.next g1 k1) _ fun u y H2 g2 k2 r2 h2 =>
    h2 M H2 v u ((p.wf.next g1 k1).next g2 k2) (r1.keep (p.wf.next g1 k1) k2) r2 _ fun z d H3 g3 k3 r3 h3 => by
      obtain ⟨k, rfl, hT, hF⟩ := h3
      cases r3
      refine ⟨k, rfl, ?_⟩
      have p3 := ((p.next g1 k1).next g2 k2).next g3 k3
      cases k with
      | true =>
        rw [if_pos rfl]
        exact hT rfl M σ H3 p3 _ fun w c H4 g4 k4 r4 h4 => h4 M H4 u w (p3.wf.next g4 k4) ((r2.keep ((p.wf.next g1 k1).next g2 k2) k3).keep p3.wf k4) r4 Q fun z d H5 g5 k5 r5 h5 => q z d H5 g5 ((((k1.trans k2).trans k3).trans k4).trans k5) r5 h5
      | false =>
        rw [if_neg Bool.false_ne_true]
        exact q _ _ H3 g3 ((k1.trans k2).trans k3) (.bl false) (hF rfl)
theorem ev_andV (h : EvD W ta δ fun x => ∃ b, x = .bl b ∧ (b = true → EvD W tb δ P) ∧ (b = false → P (.bl false))) : EvD W (tAndV ta tb) δ P := fun M σ H p Q q =>
  h M σ H p _ fun v x H1 g1 k1 r1 h1 => by
    obtain ⟨b, rfl, hT, hF⟩ := h1
    cases r1
    refine ⟨b, rfl, ?_⟩
    cases b with
    | true =>
      rw [if_pos rfl]
      exact hT rfl M σ H1 (p.next g1 k1) Q fun z d H3 g3 k3 r3 h3 => q z d H3 g3 (k1.trans k3) r3 h3
    | false =>
      rw [if_neg Bool.false_ne_true]
      exact q _ _ H1 g1 k1 (.bl false) (hF rfl)
theorem ev_orV (h : EvD W ta δ fun x => ∃ b, x = .bl b ∧ (b = false → EvD W tb δ P) ∧ (b = true → P (.bl true))) : EvD W (tOrV ta tb) δ P := fun M σ H p Q q =>
  h M σ H p _ fun v x H1 g1 k1 r1 h1 => by
    obtain ⟨b, rfl, hF, hT⟩ := h1
    cases r1
    refine ⟨b, rfl, ?_⟩
    cases b with
    | false =>
      rw [if_neg Bool.false_ne_true]
      exact hF rfl M σ H1 (p.next g1 k1) Q fun z d H3 g3 k3 r3 h3 => q z d H3 g3 (k1.trans k3) r3 h3
    | true =>
      rw [if_pos rfl]
      exact q _ _ H1 g1 k1 (.bl true) (hT rfl)
theorem ev_notV (h : EvD W ta δ fun x => ∃ b, x = .bl b ∧ P (.bl (!b))) : EvD W (tNotV ta) δ P := fun M σ H p Q q =>
  h M σ H p _ fun v x H1 g1 k1 r1 h1 => by
    obtain ⟨b, rfl, hP⟩ := h1
    cases r1
    exact ⟨b, rfl, q _ _ H1 g1 k1 (.bl _) hP⟩
theorem ev_if (h : EvT W t δ fun b => (b = true → EvD W ta δ P) ∧ (b = false → EvD W tb δ P)) : EvD W (tIf t ta tb) δ P := fun M σ H p Q q =>
  h M σ H p _ fun b H1 g1 k1 h1 => by
    cases b with
    | true =>
      rw [if_pos rfl]
      exact h1.1 rfl M σ H1 (p.next g1 k1) Q fun z d H3 g3 k3 r3 h3 => q z d H3 g3 (k1.trans k3) r3 h3
    | false =>
      rw [if_neg Bool.false_ne_true]
      exact h1.2 rfl M σ H1 (p.next g1 k1) Q fun z d H3 g3 k3 r3 h3 => q z d H3 g3 (k1.trans k3) r3 h3
theorem et_B {P : Bool → Prop} (h : EvD W te δ fun x => ∃ b, x = .bl b ∧ P b) : EvT W (tB te) δ P := fun M σ H p Q q => h M σ H p _ fun v x H1 g1 k1 r1 h1 => by
  obtain ⟨b, rfl, hP⟩ := h1
  cases r1
  exact ⟨b, rfl, q b H1 g1 k1 hP⟩
theorem et_test {P : Bool → Prop} (h : EvD W te δ fun x => ∃ b, x = .bl b ∧ P b) : EvT W (tTest te) δ P := et_B h
theorem et_and {P : Bool → Prop} (h : EvT W t δ fun b => (b = true → EvT W u δ P) ∧ (b = false → P false)) : EvT W (tAnd t u) δ P := fun M σ H p Q q =>
  h M σ H p _ fun b H1 g1 k1 h1 => by
    cases b with
    | true =>
      rw [if_pos rfl]
      exact h1.1 rfl M σ H1 (p.next g1 k1) Q fun c H3 g3 k3 h3 => q c H3 g3 (k1.trans k3) h3
    | false =>
      rw [if_neg Bool.false_ne_true]
      exact q _ H1 g1 k1 (h1.2 rfl)
theorem et_or {P : Bool → Prop} (h : EvT W t δ fun b => (b = false → EvT W u δ P) ∧ (b = true → P true)) : EvT W (tOr t u) δ P := fun M σ H p Q q =>
  h M σ H p _ fun b H1 g1 k1 h1 => by
    cases b with
    | false =>
      rw [if_neg Bool.false_ne_true]
      exact h1.1 rfl M σ H1 (p.next g1 k1) Q fun c H3 g3 k3 h3 => q c H3 g3 (k1.trans k3) h3
    | true =>
      rw [if_pos rfl]
      exact q _ H1 g1 k1 (h1.2 rfl)
theorem et_not {P : Bool → Prop} (h : EvT W t δ fun b => P (!b)) : EvT W (tNot t) δ P := fun M σ H p Q q => h M σ H p _ fun b H1 g1 k1 h1 => q (!b) H1 g1 k1 h1
theorem ea_nil {P : List D → Prop} (h : P []) : EvA W tNil δ P := fun M σ H p Q q => q [] [] H p.wf.g (Keep.refl H) .nil h
theorem ea_cons {P : List D → Prop} {tr : TA} (h : EvD W te δ fun x => EvA W tr δ fun xs => P (x :: xs)) : EvA W (tCons te tr) δ P := fun M σ H p Q q =>
  h M σ H p _ fun v x H1 g1 k1 r1 h1 => h1 M σ H1 (p.next g1 k1) _ fun vs xs H2 g2 k2 r2 h2 => q (v :: vs) (x :: xs) H2 g2 (k1.trans k2) (.cons (r1.keep (p.wf.next g1 k1) k2) r2) h2
theorem ev_cb {r : List V → Hp → VK → Prop} {tr : TA} (h : EvA W tr δ fun xs => RCD W r xs P) : EvD W (tCB r tr) δ P := fun M σ H p Q q =>
  h M σ H p _ fun vs xs H1 g1 k1 r1 h1 => h1 M H1 vs (p.wf.next g1 k1) r1 Q fun z d H2 g2 k2 r2 h2 => q z d H2 g2 (k1.trans k2) r2 h2
theorem len_ok {n : Nat} (h : n ≤ 100000) : n ≤ sizeLine := Nat.le_trans h (by decide)
theorem newT {M : Addr → Prop} {H : Hp} {p : Addr} {vs : List V} {ds : List D} (w : Wf W M H) (r : Reps W M H vs ds) (hp : H p = none) : StOk W (upd H p (.tup vs)) ∧ Keep W H (upd H p (.tup vs)) ∧ Rep W M (upd H p (.tup vs)) (.ref p) (.tup ds) :=
  ⟨w.g.new hp, Keep.new hp, .tup (SqT.of upd_same) (r.keep w (Keep.new hp))⟩
theorem newL {M : Addr → Prop} {H : Hp} {p : Addr} {vs : List V} {ds : List D} (w : Wf W M H) (r : Reps W M H vs ds) (hp : H p = none) : StOk W (upd H p (.lst vs)) ∧ Keep W H (upd H p (.lst vs)) ∧ Rep W M (upd H p (.lst vs)) (.ref p) (.lst ds) :=
  ⟨w.g.new hp, Keep.new hp, .lst (fun m => by
    obtain ⟨o, ho⟩ := w.dom p m
    rw [hp] at ho
    cases ho) upd_same (r.keep w (Keep.new hp))⟩
theorem ev_tup {tr : TA} (h : EvA W tr δ fun xs => xs.length ≤ 100000 ∧ P (.tup xs)) : EvD W (tTup tr) δ P := fun M σ H p Q q =>
  h M σ H p _ fun vs xs H1 g1 k1 r1 ⟨hl, hP⟩ => ⟨len_ok (by rw [r1.length]; exact hl), fun a ha => by
    obtain ⟨x1, x2, x3⟩ := newT (p.wf.next g1 k1) r1 ha
    exact q _ _ _ x1 (k1.trans x2) x3 hP⟩
theorem ev_lst {tr : TA} (h : EvA W tr δ fun xs => xs.length ≤ 100000 ∧ P (.lst xs)) : EvD W (tLst tr) δ P := fun M σ H p Q q =>
  h M σ H p _ fun vs xs H1 g1 k1 r1 ⟨hl, hP⟩ => ⟨len_ok (by rw [r1.length]; exact hl), fun a ha => by
    obtain ⟨x1, x2, x3⟩ := newL (p.wf.next g1 k1) r1 ha
    exact q _ _ _ x1 (k1.trans x2) x3 hP⟩
theorem rd_I0 {f : Int → Int → Int} {i j : Int} (h : P (.int (f i j))) : RD W (rI0 fun i j => .int (f i j)) (.int i) (.int j) P := fun M H v u w r1 r2 Q q => by
  cases r1
  cases r2
  exact ⟨i, j, rfl, rfl, q _ _ H w.g (Keep.refl H) (.int _) h⟩
theorem rd_I0b {f : Int → Int → Bool} {i j : Int} (h : P (.bl (f i j))) : RD W (rI0 fun i j => .bl (f i j)) (.int i) (.int j) P := fun M H v u w r1 r2 Q q => by
  cases r1
  cases r2
  exact ⟨i, j, rfl, rfl, q _ _ H w.g (Keep.refl H) (.bl _) h⟩
theorem rd_I {C : Int → Int → Prop} {f : Int → Int → Int} {i j : Int} (hc : C i j) (h : P (.int (f i j))) : RD W (rI C fun i j => .int (f i j)) (.int i) (.int j) P := fun M H v u w r1 r2 Q q => by
  cases r1
  cases r2
  exact ⟨i, j, rfl, rfl, hc, q _ _ H w.g (Keep.refl H) (.int _) h⟩
theorem ru_I {f : Int → Int} {i : Int} (h : P (.int (f i))) : RUD W (rU fun i => .int (f i)) (.int i) P := fun M H v w r1 Q q => by
  cases r1
  exact ⟨i, rfl, q _ _ H w.g (Keep.refl H) (.int _) h⟩
theorem atI_D {M : Addr → Prop} {H : Hp} {vs : List V} {ds : List D} {i : Int} {j : Nat} {d : D} (r : Reps W M H vs ds) (hi : i = (j : Int)) (h : ds[j]? = some d) : ∃ v, atI vs i = some v ∧ Rep W M H v d := by
  obtain ⟨v, h1, h2⟩ := r.get h
  exact ⟨v, at_of hi h1, h2⟩
/-- x[i], i from the left -/
theorem rd_ixT {i : Int} {j : Nat} {ds : List D} {d : D} (hi : i = (j : Int)) (h : ds[j]? = some d) (hP : P d) : RD W (rIx W.K) (.tup ds) (.int i) P := fun M H v u w r1 r2 Q q => by
  cases r1 with
  | tup hs hr =>
    cases r2
    obtain ⟨x, h1, h2⟩ := atI_D hr hi h
    exact .inr (.inl ⟨_, _, i, x, rfl, rfl, hs, h1, q x d H w.g (Keep.refl H) h2 hP⟩)
theorem rd_ixL {i : Int} {j : Nat} {ds : List D} {d : D} (hi : i = (j : Int)) (h : ds[j]? = some d) (hP : P d) : RD W (rIx W.K) (.lst ds) (.int i) P := fun M H v u w r1 r2 Q q => by
  cases r1 with
  | lst hn hs hr =>
    cases r2
    obtain ⟨x, h1, h2⟩ := atI_D hr hi h
    exact .inl ⟨_, _, i, x, rfl, rfl, .inl (.inl hs), h1, q x d H w.g (Keep.refl H) h2 hP⟩
theorem rc_lenT {ds : List D} (h : P (.int (ds.length : Int))) : RCD W (fun xs H Q => ∃ x n, xs = [x] ∧ LenV W.K x H n ∧ Q (.int n) H) [.tup ds] P := fun M H vs w r Q q => by
  cases r with
  | cons r1 r2 =>
    cases r2
    cases r1 with
    | tup hs hr => exact ⟨_, _, rfl, .inr ⟨_, hs, rfl⟩, q _ _ H w.g (Keep.refl H) (.int _) (by rw [hr.length]; exact h)⟩
theorem rc_lenL {ds : List D} (h : P (.int (ds.length : Int))) : RCD W (fun xs H Q => ∃ x n, xs = [x] ∧ LenV W.K x H n ∧ Q (.int n) H) [.lst ds] P := fun M H vs w r Q q => by
  cases r with
  | cons r1 r2 =>
    cases r2
    cases r1 with
    | lst hn hs hr => exact ⟨_, _, rfl, .inl ⟨_, .inl (.inl hs), rfl⟩, q _ _ H w.g (Keep.refl H) (.int _) (by rw [hr.length]; exact h)⟩
theorem rc_abs {i : Int} (h : P (.int (if i < 0 then -i else i))) : RCD W (fun xs H Q => ∃ i, xs = [.int i] ∧ Q (.int (if i < 0 then -i else i)) H) [.int i] P := fun M H vs w r Q q => by
  cases r with
  | cons r1 r2 =>
    cases r2
    cases r1
    exact ⟨i, rfl, q _ _ H w.g (Keep.refl H) (.int _) h⟩
theorem rc_int1 {i : Int} (h : P (.int i)) : RCD W (fun xs H Q => (∃ i, xs = [.int i] ∧ Q (.int i) H) ∨ ∃ k, xs = [.bl k] ∧ Q (.int (if k then 1 else 0)) H) [.int i] P := fun M H vs w r Q q => by
  cases r with
  | cons r1 r2 =>
    cases r2
    cases r1
    exact .inl ⟨i, rfl, q _ _ H w.g (Keep.refl H) (.int _) h⟩
theorem rc_gcd {i j : Int} (h : P (.int ((Nat.gcd i.natAbs j.natAbs : Nat) : Int))) : RCD W rGcd [.int i, .int j] P := fun M H vs w r Q q => by
  cases r with
  | cons r1 r2 =>
    cases r2 with
    | cons r2 r3 =>
      cases r3
      cases r1
      cases r2
      exact ⟨i, j, rfl, q _ _ H w.g (Keep.refl H) (.int _) h⟩
theorem rc_tupL {ds : List D} (h : P (.tup ds)) : RCD W (fun xs H Q => ∃ p ys, xs = [.ref p] ∧ ((SqL W.K H p ys ∧ ∀ l, H l = none → Q (.ref l) (upd H l (.tup ys))) ∨ (SqT W.K H p ys ∧ Q (.ref p) H))) [.lst ds] P := fun M H vs w r Q q => by
  cases r with
  | cons r1 r2 =>
    cases r2
    cases r1 with
    | lst hn hs hr =>
      refine ⟨_, _, rfl, .inl ⟨.inl (.inl hs), fun l hl => ?_⟩⟩
      obtain ⟨x1, x2, x3⟩ := newT w hr hl
      exact q _ _ _ x1 x2 x3 h
theorem rc_listT {ds : List D} (h : P (.lst ds)) : RCD W (fun xs H Q => ∃ p ys, xs = [.ref p] ∧ (SqL W.K H p ys ∨ SqT W.K H p ys) ∧ ∀ l, H l = none → Q (.ref l) (upd H l (.lst ys))) [.tup ds] P := fun M H vs w r Q q => by
  cases r with
  | cons r1 r2 =>
    cases r2
    cases r1 with
    | tup hs hr =>
      refine ⟨_, _, rfl, .inr hs, fun l hl => ?_⟩
      obtain ⟨x1, x2, x3⟩ := newL w hr hl
      exact q _ _ _ x1 x2 x3 h
theorem reps_bls {M : Addr → Prop} {H : Hp} : ∀ {bs : List Bool} {vs : List V}, Reps W M H vs (bs.map D.bl) → vs = bs.map V.bl
  | [], _, .nil => rfl
  | b :: bs, _, .cons r t => by
    cases r
    rw [reps_bls t]
    rfl
theorem rc_all {bs : List Bool} (h : P (.bl (bs.all id))) : RCD W (rAll W.K) [.lst (bs.map D.bl)] P := fun M H vs w r Q q => by
  cases r with
  | cons r1 r2 =>
    cases r2
    cases r1 with
    | lst hn hs hr =>
      have e := reps_bls hr
      subst e
      exact ⟨_, bs, rfl, .inl (.inl hs), q _ _ H w.g (Keep.refl H) (.bl _) h⟩
def rOr (r r' : R2) : R2 := fun x y H Q => r x y H Q ∨ r' x y H Q
theorem opOr {X : Cx} {f : Value → Value → Sem Value} {r r' : R2} (h : OpR X f r) (h' : OpR X f r') : OpR X f (rOr r r') := by
  intro pins s σ H x y v u Q I rx ry z
  rcases z with z | z
  · exact h pins s σ H x y v u Q I rx ry z
  · exact h' pins s σ H x y v u Q I rx ry z
theorem rd_orl {r r' : R2} {x y : D} (h : RD W r x y P) : RD W (rOr r r') x y P := fun M H v u w r1 r2 Q q => .inl (h M H v u w r1 r2 Q q)
theorem rd_orr {r r' : R2} {x y : D} (h : RD W r' x y P) : RD W (rOr r r') x y P := fun M H v u w r1 r2 Q q => .inr (h M H v u w r1 r2 Q q)
abbrev rAddI : R2 := rI0 fun i j => .int (i + j)
theorem rd_catL {xs ys : List D} (hl : xs.length + ys.length ≤ 100000) (h : P (.lst (xs ++ ys))) : RD W rCat (.lst xs) (.lst ys) P := fun M H v u w r1 r2 Q q => by
  cases r1 with
  | lst n1 h1 q1 =>
    cases r2 with
    | lst n2 h2 q2 =>
      refine ⟨_, _, _, _, rfl, rfl, h1, h2, len_ok (by rw [q1.length, q2.length]; exact hl), fun p hp => ?_⟩
      obtain ⟨x1, x2, x3⟩ := newL w (q1.append q2) hp
      exact q _ _ _ x1 x2 x3 h
def rPlus (K : PySem.W.Frag) : R2 := rOr rAddI (rOr rCat (rCatA K))
theorem op_plus {X : Cx} : OpR X (binaryOp .Add) (rPlus X.K) := opOr op_add (opOr op_cat op_catA)
theorem rd_plusI {i j : Int} (h : P (.int (i + j))) : RD W (rPlus W.K) (.int i) (.int j) P := rd_orl (rd_I0 h)
theorem rd_plusL {xs ys : List D} (hl : xs.length + ys.length ≤ 100000) (h : P (.lst (xs ++ ys))) : RD W (rPlus W.K) (.lst xs) (.lst ys) P := rd_orr (rd_orl (rd_catL hl h))
/-- types by their names -/
def D.tyName : D → Option String
  | .non => some "NoneType"
  | .bl _ => some "bool"
  | .int _ => some "int"
  | .str _ => some "str"
  | .tup _ => some "tuple"
  | .lst _ => some "list"
  | .dct => some "dict"
  | .dic _ _ => some "dict"
  | _ => none
def D.isInt : D → Bool
  | .int _ => true
  | _ => false
theorem tyx {M : Addr → Prop} {H : Hp} {v : V} {d : D} {n : String} (r : Rep W M H v d) (h : d.tyName = some n) : TyX W.K H v (.type n) := by
  cases r with
  | non => cases h; exact .base .non
  | bl b => cases h; exact .base (.bl b)
  | int i => cases h; exact .base (.int i)
  | str x => cases h; exact .base (.str x)
  | ty m => cases h
  | tup hs hr =>
    cases h
    rcases hs with (hs | ⟨o, hs⟩) | ⟨o, its, m, e, c, _⟩
    · exact .base (.tup hs)
    · exact .fTuple hs
    · exact .kTuple e c
  | lst hn hs hr =>
    cases h
    exact .base (.lst hs)
  | st e => cases h
  | obj a => cases h
  | dct n e => cases h; exact .base (.dK e)
  | ins n e _ _ => cases h
  | exc n e _ _ => cases h
  | xob0 => cases h
  | xob => cases h
  | dic n e _ _ => cases h; exact .base (.dK e)
theorem rc_isi {x : D} {n m : String} {b : Bool} (hx : x.tyName = some m) (hk : kitB m n = some b) (h : P (.bl b)) : RCD W (rIsi W.K) [x, .ty n] P := fun M H vs w r Q q => by
  cases r with
  | cons r1 r2 =>
    cases r2 with
    | cons r2 r3 =>
      cases r3
      cases r2
      exact ⟨_, _, _, _, b, rfl, .ty n, tyx r1 hx, kit_ty hk, q _ _ H w.g (Keep.refl H) (.bl b) h⟩
def D.isBl : D → Bool
  | .bl _ => true
  | _ => false
def D.isTup : D → Bool
  | .tup _ => true
  | _ => false
theorem rc_isiI {x : D} (hx : x.tyName.isSome = true) (h : P (.bl (x.isInt || x.isBl))) : RCD W (rIsi W.K) [x, .ty "int"] P := by
  cases x <;> first | exact rc_isi rfl (b := true) (by decide +kernel) h | exact rc_isi rfl (b := false) (by decide +kernel) h | cases hx
theorem rc_isiB {x : D} (hx : x.tyName.isSome = true) (h : P (.bl x.isBl)) : RCD W (rIsi W.K) [x, .ty "bool"] P := by
  cases x <;> first | exact rc_isi rfl (b := true) (by decide +kernel) h | exact rc_isi rfl (b := false) (by decide +kernel) h | cases hx
theorem rc_isiT {x : D} (hx : x.tyName.isSome = true) (h : P (.bl x.isTup)) : RCD W (rIsi W.K) [x, .ty "tuple"] P := by
  cases x <;> first | exact rc_isi rfl (b := true) (by decide +kernel) h | exact rc_isi rfl (b := false) (by decide +kernel) h | cases hx
theorem exb_t {c : Bool} {A B : Prop} (hc : c = true) (h : A) : ∃ b, D.bl c = D.bl b ∧ (b = true → A) ∧ (b = false → B) := ⟨c, rfl, fun _ => h, fun z => by rw [hc] at z; cases z⟩
theorem exb_f {c : Bool} {A B : Prop} (hc : c = false) (h : B) : ∃ b, D.bl c = D.bl b ∧ (b = true → A) ∧ (b = false → B) := ⟨c, rfl, fun z => (by rw [hc] at z; cases z), fun _ => h⟩
theorem exo_f {c : Bool} {A B : Prop} (hc : c = false) (h : A) : ∃ b, D.bl c = D.bl b ∧ (b = false → A) ∧ (b = true → B) := ⟨c, rfl, fun _ => h, fun z => by rw [hc] at z; cases z⟩
theorem exo_t {c : Bool} {A B : Prop} (hc : c = true) (h : B) : ∃ b, D.bl c = D.bl b ∧ (b = false → A) ∧ (b = true → B) := ⟨c, rfl, fun z => (by rw [hc] at z; cases z), fun _ => h⟩
theorem bt {c : Bool} {A B : Prop} (hc : c = true) (h : A) : (c = true → A) ∧ (c = false → B) := ⟨fun _ => h, fun z => by rw [hc] at z; cases z⟩
theorem bf {c : Bool} {A B : Prop} (hc : c = false) (h : B) : (c = true → A) ∧ (c = false → B) := ⟨fun z => (by rw [hc] at z; cases z), fun _ => h⟩
theorem bof {c : Bool} {A B : Prop} (hc : c = false) (h : A) : (c = false → A) ∧ (c = true → B) := ⟨fun _ => h, fun z => by rw [hc] at z; cases z⟩
theorem bot {c : Bool} {A B : Prop} (hc : c = true) (h : B) : (c = false → A) ∧ (c = true → B) := ⟨fun z => (by rw [hc] at z; cases z), fun _ => h⟩
theorem exb {c : Bool} {A : Bool → Prop} (h : A c) : ∃ b, D.bl c = D.bl b ∧ A b := ⟨c, rfl, h⟩
/-- a flag by its two ways, the first asked -/
theorem exb2 {c : Bool} {A B : Prop} (h1 : c = true → A) (h2 : c = false → B) : ∃ b, D.bl c = D.bl b ∧ (b = true → A) ∧ (b = false → B) := ⟨c, rfl, h1, h2⟩
mutual
def D.py : D → PyData
  | .non => .none
  | .bl b => .bool b
  | .int i => .int i
  | .str x => .str x
  | .tup xs => .tuple (D.pys xs)
  | .lst xs => .list (D.pys xs)
  | _ => .dict []
def D.pys : List D → List PyData
  | [] => []
  | x :: xs => x.py :: D.pys xs
end
mutual
def D.plain : D → Bool
  | .non | .bl _ | .int _ | .str _ => true
  | .tup xs | .lst xs => D.plains xs
  | _ => false
def D.plains : List D → Bool
  | [] => true
  | x :: xs => x.plain && D.plains xs
end
mutual
theorem dp_of {M : Addr → Prop} {H : Hp} : ∀ {v : V} {d : D}, Rep W M H v d → d.plain = true → Dp W.K H v d.py
  | _, _, .non, _ => by unfold D.py; exact .non
  | _, _, .bl b, _ => by unfold D.py; exact .bl b
  | _, _, .int i, _ => by unfold D.py; exact .int i
  | _, _, .str x, _ => by unfold D.py; exact .str x
  | _, _, .ty n, h => by simp [D.plain] at h
  | _, _, .tup hs r, h => by
    unfold D.py
    exact .tup hs (dps_of r (by simpa [D.plain] using h))
  | _, _, .lst hn hs r, h => by
    unfold D.py
    exact .lst (.inl (.inl hs)) (dps_of r (by simpa [D.plain] using h))
  | _, _, .st e, h => by simp [D.plain] at h
  | _, _, .obj a, h => by simp [D.plain] at h
  | _, _, .dct _ _, h => by simp [D.plain] at h
  | _, _, .ins _ _ _ _, h => by simp [D.plain] at h
  | _, _, .exc _ _ _ _, h => by simp [D.plain] at h
  | _, _, .xob0 _ _, h => by simp [D.plain] at h
  | _, _, .xob _ _ _ _ _ _, h => by simp [D.plain] at h
  | _, _, .dic _ _ _ _, h => by simp [D.plain] at h
theorem dps_of {M : Addr → Prop} {H : Hp} : ∀ {vs : List V} {ds : List D}, Reps W M H vs ds → D.plains ds = true → DpAll W.K H vs (D.pys ds)
  | _, _, .nil, _ => by unfold D.pys; exact .nil
  | _, _, .cons r t, h => by
    simp only [D.plains, Bool.and_eq_true] at h
    unfold D.pys
    exact .cons (dp_of r h.1) (dps_of t h.2)
end
/-- what == tells of two data -/
def D.eqv (x y : D) : Bool := PyData.eqv x.py y.py
def D.fine (x : D) : Bool := x.plain && SeqAt.shaped x.py
theorem rd_eqD {x y : D} (hx : x.fine = true) (hy : y.fine = true) (h : P (.bl (x.eqv y))) : RD W (rEqD W.K) x y P := fun M H v u w r1 r2 Q q => by
  have h1 := (Bool.and_eq_true_iff.mp hx)
  have h2 := (Bool.and_eq_true_iff.mp hy)
  exact ⟨_, _, dp_of r1 h1.1, dp_of r2 h2.1, h1.2, h2.2, q _ _ H w.g (Keep.refl H) (.bl _) h⟩
theorem rd_neD {x y : D} (hx : x.fine = true) (hy : y.fine = true) (h : P (.bl (!x.eqv y))) : RD W (rNeD W.K) x y P := fun M H v u w r1 r2 Q q => by
  have h1 := (Bool.and_eq_true_iff.mp hx)
  have h2 := (Bool.and_eq_true_iff.mp hy)
  exact ⟨_, _, dp_of r1 h1.1, dp_of r2 h2.1, h1.2, h2.2, q _ _ H w.g (Keep.refl H) (.bl _) h⟩
theorem eqvI (i j : Int) : D.eqv (.int i) (.int j) = decide (i = j) := by
  show PyData.eqv (D.py (.int i)) (D.py (.int j)) = _
  simp only [D.py, PyData.eqv]
  rfl
theorem fineI (i : Int) : D.fine (.int i) = true := by
  simp [D.fine, D.plain, D.py, SeqAt.shaped, PyData.canLay0, PyData.depth]
theorem rd_eqI {i j : Int} (h : P (.bl (decide (i = j)))) : RD W (rEqD W.K) (.int i) (.int j) P := rd_eqD (fineI i) (fineI j) (by rw [eqvI]; exact h)
theorem rd_neI {i j : Int} (h : P (.bl (!decide (i = j)))) : RD W (rNeD W.K) (.int i) (.int j) P := rd_neD (fineI i) (fineI j) (by rw [eqvI]; exact h)
end
end PD
namespace PD
open PySem PySem.Spec PyProof.Rows L2
open RZ (iZipA ItzT)
structure Ent (W : Wd) (M0 : Addr → Prop) (H0 : Hp) (M : Addr → Prop) (H : Hp) : Prop where
  k : Keep W H0 H
  m : ∀ a, M0 a → M a
  new : ∀ a, M a → ¬ M0 a → H0 a = none
/-- an exception by its class and what its own dict holds -/
abbrev XV := Addr × List (Str × D)
def XRep (W : Wd) (M : Addr → Prop) (H : Hp) (cls : Value) (d : Option Addr) (x : XV) : Prop := cls = .ref x.1 ∧ match d with
  | none => x.2 = []
  | some dx => ∃ fs : List (Str × V), ¬ M dx ∧ H dx = some (.xd fs) ∧ fs.map (·.1) = x.2.map (·.1) ∧ Reps W M H (fs.map (·.2)) (x.2.map (·.2))
abbrev WF : WX := fun _ _ _ _ => False
abbrev XN : XV → DS → Prop := fun _ _ => False
structure Outs (W : Wd) (Wx : WX) (M0 : Addr → Prop) (H0 : Hp) (N : DS → Prop) (R : D → Prop) (B C : DS → Prop) (X : XV → DS → Prop) (E : Ends) : Prop where
  nx : ∀ M σ δ H, Pre W M δ σ H → Ent W M0 H0 M H → N δ → E.nx σ H
  rt : ∀ v d H, StOk W H → Keep W H0 H → Rep W M0 H v d → R d → E.rt v H
  bk : ∀ M σ δ H, Pre W M δ σ H → Ent W M0 H0 M H → B δ → E.bk σ H
  ct : ∀ M σ δ H, Pre W M δ σ H → Ent W M0 H0 M H → C δ → E.ct σ H
  xw : ∀ M σ δ H cls d x, Pre W M δ σ H → Ent W M0 H0 M H → XRep W M H cls d x → X x δ → Wx cls d σ H
def SX (W : Wd) (Wx : WX) (ts : TS) (δ : DS) (N : DS → Prop) (R : D → Prop) (B C : DS → Prop) (X : XV → DS → Prop) : Prop :=
  ∀ (M0 : Addr → Prop) (H0 : Hp) (M : Addr → Prop) (σ : L2.St) (H : Hp) (E : Ends), Pre W M δ σ H → Ent W M0 H0 M H → Outs W Wx M0 H0 N R B C X E → ts E σ H
abbrev SD (W : Wd) (ts : TS) (δ : DS) (N : DS → Prop) (R : D → Prop) (B C : DS → Prop) : Prop := SX W WF ts δ N R B C XN
theorem Ent.next {W : Wd} {M0 M : Addr → Prop} {H0 H H' : Hp} (e : Ent W M0 H0 M H) (k : Keep W H H') : Ent W M0 H0 M H' := ⟨e.k.trans k, e.m, e.new⟩
section
variable {W : Wd} {Wx : WX} {X : XV → DS → Prop} {δ : DS} {N : DS → Prop} {R : D → Prop} {B C : DS → Prop} {te tl : TE} {t : TT} {ts tu : TS} {g : TG}
theorem XRep.anti {W : Wd} {M M' : Addr → Prop} {H : Hp} {cls : Value} {d : Option Addr} {x : XV} (m : ∀ a, M' a → M a) (h : XRep W M H cls d x) : XRep W M' H cls d x := by
  obtain ⟨h1, h2⟩ := h
  refine ⟨h1, ?_⟩
  cases d with
  | none => exact h2
  | some dx =>
    obtain ⟨fs, h6, h3, h5, h4⟩ := h2
    exact ⟨fs, fun z => h6 (m _ z), h3, h5, h4.anti m⟩
theorem sd_seq (h : SX W Wx ts δ (fun δ' => SX W Wx tu δ' N R B C X) R B C X) : SX W Wx (tSeq ts tu) δ N R B C X := fun M0 H0 M σ H E p e o =>
  h M0 H0 M σ H { E with nx := tu E } p e ⟨fun M' σ' δ' H' p' e' hN => hN M0 H0 M' σ' H' E p' e' o, o.rt, o.bk, o.ct, o.xw⟩
theorem sd_next (h : N δ) : SX W Wx tNext δ N R B C X := fun M0 H0 M σ H E p e o => o.nx M σ δ H p e h
theorem sd_asg {i : Nat} (h : EvD W te δ fun d => N (δ.set i (some d))) : SX W Wx (tAsg te (gName i)) δ N R B C X := fun M0 H0 M σ H E p e o =>
  h M σ H p _ fun v d H1 g1 k1 r1 h1 => o.nx M _ _ H1 ⟨p.wf.next g1 k1, (p.next g1 k1).sl.set i r1⟩ (e.next k1) h1
theorem sd_ret (h : EvD W te δ R) : SX W Wx (tRet te) δ N R B C X := fun M0 H0 M σ H E p e o =>
  h M σ H p _ fun v d H1 g1 k1 r1 h1 => o.rt v d H1 g1 (e.k.trans k1) (r1.anti e.m) h1
theorem sd_retN (h : R .non) : SX W Wx tRetN δ N R B C X := fun M0 H0 M σ H E p e o => o.rt .non .non H p.wf.g e.k .non h
theorem sd_drop (h : EvD W te δ fun _ => N δ) : SX W Wx (tDrop te) δ N R B C X := fun M0 H0 M σ H E p e o =>
  h M σ H p _ fun v d H1 g1 k1 r1 h1 => o.nx M σ δ H1 (p.next g1 k1) (e.next k1) h1
theorem sd_if (h : EvT W t δ fun b => (b = true → SX W Wx ts δ N R B C X) ∧ (b = false → SX W Wx tu δ N R B C X)) : SX W Wx (tIfS t ts tu) δ N R B C X := fun M0 H0 M σ H E p e o =>
  h M σ H p _ fun b H1 g1 k1 h1 => by
    cases b with
    | true =>
      rw [if_pos rfl]
      exact h1.1 rfl M0 H0 M σ H1 E (p.next g1 k1) (e.next k1) o
    | false =>
      rw [if_neg Bool.false_ne_true]
      exact h1.2 rfl M0 H0 M σ H1 E (p.next g1 k1) (e.next k1) o
theorem sd_mono {N' : DS → Prop} {R' : D → Prop} (h : SX W Wx ts δ N R B C X) (hN : ∀ δ', N δ' → N' δ') (hR : ∀ d, R d → R' d) : SX W Wx ts δ N' R' B C X := fun M0 H0 M σ H E p e o =>
  h M0 H0 M σ H E p e ⟨fun M' σ' δ' H' p' e' x => o.nx M' σ' δ' H' p' e' (hN _ x), fun v d H' g k r x => o.rt v d H' g k r (hR _ x), o.bk, o.ct, o.xw⟩
/-- a word between a statement and what follows it -/
theorem sd_cut (Mid : DS → Prop) (h : SX W Wx ts δ Mid R B C X) (k : ∀ δ', Mid δ' → SX W Wx tu δ' N R B C X) : SX W Wx (tSeq ts tu) δ N R B C X := sd_seq (sd_mono h k fun _ x => x)
/-- a, b = x, y -/
theorem sd_par {i j : Nat} {ta : TA} (h : EvA W ta δ fun xs => ∃ x y, xs = [x, y] ∧ N ((δ.set i (some x)).set j (some y))) : SX W Wx (tPar i j ta) δ N R B C X := fun M0 H0 M σ H E p e o =>
  h M σ H p _ fun vs xs H1 g1 k1 r1 h1 => by
    obtain ⟨x, y, rfl, hN⟩ := h1
    cases r1 with
    | cons r1 r2 =>
      cases r2 with
      | cons r2 r3 =>
        cases r3
        exact ⟨_, _, rfl, o.nx M _ _ H1 ⟨p.wf.next g1 k1, ((p.next g1 k1).sl.set i r1).set j r2⟩ (e.next k1) hN⟩
def GD (W : Wd) (g : TG) (d : D) (δ : DS) (js : List Nat) (Nx : DS → Prop) : Prop := ∀ (M : Addr → Prop) (σ : L2.St) (H : Hp) (v : V), Pre W M δ σ H → Rep W M H v d → ∀ Q : L2.St → Hp → Prop,
  (∀ σ' δ', Pre W M δ' σ' H → Nx δ' → (∀ vs : List Nat, (∀ j ∈ js, j ∈ vs) → wipe σ' vs = wipe σ vs) → Q σ' H) → g v σ H Q
theorem wipe_get (σ : L2.St) : ∀ (vs : List Nat) (i : Nat), (wipe σ vs)[i]? = if i ∈ vs ∧ i < σ.length then some none else σ[i]?
  | [], i => by
    unfold wipe
    rw [if_neg (by simp)]
  | v :: vs, i => by
    unfold wipe
    rw [List.getElem?_set, wipe_length, wipe_get σ vs i]
    by_cases hv : v = i
    · subst hv
      by_cases hl : v < σ.length
      · rw [if_pos rfl, if_pos hl, if_pos ⟨by simp, hl⟩]
      · rw [if_pos rfl, if_neg hl, if_neg (fun z => hl z.2)]
        exact (List.getElem?_eq_none (by omega)).symm
    · rw [if_neg hv]
      have e : (i ∈ v :: vs ∧ i < σ.length) ↔ (i ∈ vs ∧ i < σ.length) := by
        constructor
        · rintro ⟨h1, h2⟩
          rcases List.mem_cons.mp h1 with z | z
          · exact absurd z.symm hv
          · exact ⟨z, h2⟩
        · rintro ⟨h1, h2⟩
          exact ⟨List.mem_cons_of_mem _ h1, h2⟩
      by_cases hc : i ∈ vs ∧ i < σ.length
      · rw [if_pos hc, if_pos (e.mpr hc)]
      · rw [if_neg hc, if_neg (fun z => hc (e.mp z))]
theorem wipe_set {σ : L2.St} {j : Nat} {x : Option V} {vs : List Nat} (h : j ∈ vs) : wipe (σ.set j x) vs = wipe σ vs := by
  apply List.ext_getElem?
  intro i
  rw [wipe_get, wipe_get, List.length_set]
  by_cases hc : i ∈ vs ∧ i < σ.length
  · rw [if_pos hc, if_pos hc]
  · rw [if_neg hc, if_neg hc, List.getElem?_set]
    by_cases hj : j = i
    · subst hj
      have hl : ¬ j < σ.length := fun z => hc ⟨h, z⟩
      rw [if_pos rfl, if_neg hl]
      exact (List.getElem?_eq_none (by omega)).symm
    · rw [if_neg hj]
theorem wipe_wipe (σ : L2.St) (vs : List Nat) : wipe (wipe σ vs) vs = wipe σ vs := by
  apply List.ext_getElem?
  intro i
  rw [wipe_get, wipe_get, wipe_length]
  by_cases hc : i ∈ vs ∧ i < σ.length
  · rw [if_pos hc, if_pos hc]
  · rw [if_neg hc, if_neg hc]
theorem gd_name {j : Nat} {d : D} {Nx : DS → Prop} (h : Nx (δ.set j (some d))) : GD W (gName j) d δ [j] Nx := fun M σ H v p r Q q =>
  q _ _ ⟨p.wf, p.sl.set j r⟩ h fun vs hv => wipe_set (hv j (List.mem_singleton.mpr rfl))
theorem gd_tup2 {g1 g2 : TG} {x y : D} {j1 j2 : List Nat} {Nx : DS → Prop} (h : GD W g1 x δ j1 fun δ1 => GD W g2 y δ1 j2 Nx) : GD W (gTup W.K 2 (gCons g1 (gCons g2 gNil))) (.tup [x, y]) δ (j1 ++ j2) Nx := fun M σ H v p r Q q => by
  cases r with
  | @tup a vs ds hs hr =>
    cases hr with
    | cons r1 r2 =>
      cases r2 with
      | cons r2 r3 =>
        cases r3
        refine ⟨a, _, rfl, hs, rfl, _, _, rfl, h M σ H _ p r1 _ fun σ1 δ1 p1 h1 w1 => ⟨_, _, rfl, h1 M σ1 H _ p1 r2 _ fun σ2 δ2 p2 h2 w2 => ⟨rfl, q σ2 δ2 p2 h2 fun vs hv => ?_⟩⟩⟩
        rw [w2 vs fun j hj => hv j (List.mem_append_right _ hj), w1 vs fun j hj => hv j (List.mem_append_left _ hj)]
/-- a target that is a tuple: a, b = e -/
theorem sd_asgG {js : List Nat} (h : EvD W te δ fun d => GD W g d δ js N) : SX W Wx (tAsg te g) δ N R B C X := fun M0 H0 M σ H E p e o =>
  h M σ H p _ fun v d H1 g1 k1 r1 h1 => h1 M σ H1 v (p.next g1 k1) r1 _ fun σ' δ' p' hN _ => o.nx M σ' δ' H1 p' (e.next k1) hN
theorem sd_while {tc : TT} (Inv : DS → Prop) (μ : DS → Nat) (h0 : Inv δ) (h : ∀ δ', Inv δ' → EvT W tc δ' fun b => (b = true → SX W Wx ts δ' (fun δ2 => Inv δ2 ∧ μ δ2 < μ δ') R N (fun δ2 => Inv δ2 ∧ μ δ2 < μ δ') X) ∧ (b = false → N δ')) : SX W Wx (tWhile tc ts) δ N R B C X := fun M0 H0 M σ H E p e o => by
  refine ⟨fun m σ' H' => ∃ M' δ', Pre W M' δ' σ' H' ∧ Ent W M0 H0 M' H' ∧ Inv δ' ∧ m = μ δ', ⟨_, M, δ, p, e, h0, rfl⟩, ?_⟩
  rintro m σ' H' ⟨M', δ', p', e', i', rfl⟩
  refine h δ' i' M' σ' H' p' _ fun b H1 g1 k1 h1 => ?_
  cases b with
  | true =>
    rw [if_pos rfl]
    refine ⟨fun σ2 H2 => ∃ M2 δ2, Pre W M2 δ2 σ2 H2 ∧ Ent W M0 H0 M2 H2 ∧ Inv δ2 ∧ μ δ2 < μ δ', ?_, ?_⟩
    · rintro σ2 H2 ⟨M2, δ2, p2, e2, i2, l2⟩
      exact ⟨_, l2, M2, δ2, p2, e2, i2, rfl⟩
    · exact h1.1 rfl M0 H0 M' σ' H1 _ (p'.next g1 k1) (e'.next k1) ⟨fun M2 σ2 δ2 H2 p2 e2 x => ⟨M2, δ2, p2, e2, x.1, x.2⟩, o.rt, o.nx, fun M2 σ2 δ2 H2 p2 e2 x => ⟨M2, δ2, p2, e2, x.1, x.2⟩, o.xw⟩
  | false =>
    rw [if_neg Bool.false_ne_true]
    exact o.nx M' σ' δ' H1 (p'.next g1 k1) (e'.next k1) (h1.2 rfl)
/-- the iterator J gives the items ds, one a turn, whatever is laid meanwhile -/
def Src (W : Wd) (M : Addr → Prop) (J : It) (H1 : Hp) (ds : List D) : Prop := ∀ (M' : Addr → Prop), (∀ a, M a → M' a) → (∀ a, M' a → ¬ M a → H1 a = none) → ∀ (i : Nat) (H2 : Hp), KeepM W M H1 H2 → StOk W H2 →
  (i = ds.length → J.stop i H2) ∧ ∀ d, ds[i]? = some d → J.go i H2 ∧ ∀ x H3, J.yld i H2 x H3 → StOk W H3 ∧ Keep W H2 H3 ∧ Rep W M' H3 x d
def IterD (W : Wd) (wi : TI) (δ : DS) (P : List D → Prop) : Prop := ∀ (M : Addr → Prop) (σ : L2.St) (H : Hp), Pre W M δ σ H → ∀ R : It → Hp → Prop,
  (∀ (J : It) (H1 : Hp) (ds : List D), StOk W H1 → Keep W H H1 → P ds → Src W M J H1 ds → R J H1) → wi σ H R
theorem src_tup {M : Addr → Prop} {H1 : Hp} {a : Addr} {vs : List V} {ds : List D} (w : Wf W M H1) (hs : SqT W.K H1 a vs) (hr : Reps W M H1 vs ds) : Src W M (Itt W.K a) H1 ds := fun M' hm hn i H2 k g => by
  have wg : Wg W M' H1 := ⟨w.g, fun b e => hm b (w.sm b e)⟩
  have hs2 := sqT_keepM wg (k.mono hm) hs
  have hr2 : Reps W M' H2 vs ds := (hr.more hn).keepM wg (k.mono hm)
  refine ⟨fun hl => ⟨vs, hs2, by rw [hr2.length]; exact Nat.le_of_eq hl.symm⟩, fun d hd => ?_⟩
  obtain ⟨v, hv, rv⟩ := hr2.get hd
  refine ⟨⟨vs, v, hs2, hv⟩, fun x H3 y => ?_⟩
  obtain ⟨rfl, y2⟩ := y
  have e : vs[i]? = some x := y2 vs hs2
  rw [hv] at e
  cases e
  exact ⟨g, Keep.refl _, rv⟩
theorem src_lst {M : Addr → Prop} {H1 : Hp} {a : Addr} {vs : List V} {ds : List D} (w : Wf W M H1) (na : ¬ M a) (hs : H1 a = some (.lst vs)) (hr : Reps W M H1 vs ds) : Src W M (Itl W.K a) H1 ds := fun M' hm hn i H2 k g => by
  have wg : Wg W M' H1 := ⟨w.g, fun b e => hm b (w.sm b e)⟩
  have na' : ¬ M' a := fun z => by
    rw [hn a z na] at hs; cases hs
  have hs2 : SqL W.K H2 a vs := .inl (.inl (rdL_keepM wg (k.mono hm) na' hs))
  have hr2 : Reps W M' H2 vs ds := (hr.more hn).keepM wg (k.mono hm)
  refine ⟨fun hl => ⟨vs, hs2, by rw [hr2.length]; exact Nat.le_of_eq hl.symm⟩, fun d hd => ?_⟩
  obtain ⟨v, hv, rv⟩ := hr2.get hd
  refine ⟨⟨vs, v, hs2, hv⟩, fun x H3 y => ?_⟩
  obtain ⟨rfl, y2⟩ := y
  have e : vs[i]? = some x := y2 vs hs2
  rw [hv] at e
  cases e
  exact ⟨g, Keep.refl _, rv⟩
theorem it_tup {P : List D → Prop} (h : EvD W tl δ fun x => ∃ ds, x = .tup ds ∧ P ds) : IterD W (iTup W.K tl) δ P := fun M σ H p R q => h M σ H p _ fun v d H1 g1 k1 r1 h1 => by
  obtain ⟨ds, rfl, hP⟩ := h1
  cases r1 with
  | tup hs hr => exact ⟨_, rfl, ⟨_, hs⟩, q _ H1 ds g1 k1 hP (src_tup (p.wf.next g1 k1) hs hr)⟩
theorem it_lst {P : List D → Prop} (h : EvD W tl δ fun x => ∃ ds, x = .lst ds ∧ P ds) : IterD W (iList W.K tl) δ P := fun M σ H p R q => h M σ H p _ fun v d H1 g1 k1 r1 h1 => by
  obtain ⟨ds, rfl, hP⟩ := h1
  cases r1 with
  | lst hn hs hr => exact ⟨_, rfl, ⟨_, .inl (.inl hs)⟩, q _ H1 ds g1 k1 hP (src_lst (p.wf.next g1 k1) hn hs hr)⟩
def iSeq (K : PySem.W.Frag) (tl : TE) : TI := fun σ H R => iList K tl σ H R ∨ iTup K tl σ H R
theorem pi_seq {X : Cx} {tg iter : Expr} {tl : TE} (h1 : PI X tg iter (iList X.K tl)) (h2 : PI X tg iter (iTup X.K tl)) : PI X tg iter (iSeq X.K tl) := ⟨fun pins s σ H R I h => by
  rcases h with h | h
  · exact h1.run pins s σ H R I h
  · exact h2.run pins s σ H R I h⟩
theorem it_seqT {P : List D → Prop} (h : EvD W tl δ fun x => ∃ ds, x = .tup ds ∧ P ds) : IterD W (iSeq W.K tl) δ P := fun M σ H p R q => .inr (it_tup h M σ H p R q)
theorem it_seqL {P : List D → Prop} (h : EvD W tl δ fun x => ∃ ds, x = .lst ds ∧ P ds) : IterD W (iSeq W.K tl) δ P := fun M σ H p R q => .inl (it_lst h M σ H p R q)
def rngD (lo : Int) (n : Nat) : List D := (List.range n).map fun (k : Nat) => .int (lo + (k : Int))
theorem rngD_length (lo : Int) (n : Nat) : (rngD lo n).length = n := by simp [rngD]
theorem rngD_get {lo : Int} {n i : Nat} {d : D} (h : (rngD lo n)[i]? = some d) : i < n ∧ d = .int (lo + (i : Int)) := by
  have hl : i < n := by
    have := (List.getElem?_eq_some_iff.mp h).1
    rw [rngD_length] at this
    exact this
  refine ⟨hl, ?_⟩
  unfold rngD at h
  rw [List.getElem?_map, List.getElem?_range hl] at h
  exact (Option.some.inj h).symm
theorem src_rng {M : Addr → Prop} {H1 : Hp} (lo : Int) (n : Nat) : Src W M (Itr lo n) H1 (rngD lo n) := fun M' hm hn i H2 k g => by
  refine ⟨fun hl => by rw [rngD_length] at hl; exact Nat.le_of_eq hl.symm, fun d hd => ?_⟩
  obtain ⟨hl, rfl⟩ := rngD_get hd
  refine ⟨hl, fun x H3 y => ?_⟩
  obtain ⟨rfl, rfl⟩ := y
  exact ⟨g, Keep.refl _, .int _⟩
theorem it_rng1 {P : List D → Prop} {ta : TA} (h : EvA W ta δ fun xs => ∃ n : Int, xs = [.int n] ∧ n < 2 ^ 62 ∧ -(2 ^ 62) ≤ n ∧ P (rngD 0 n.toNat)) : IterD W (iRng1 ta) δ P := fun M σ H p R q => h M σ H p _ fun vs ds H1 g1 k1 r1 h1 => by
  obtain ⟨n, rfl, h2, h3, hP⟩ := h1
  cases r1 with
  | cons r1 r2 =>
    cases r2
    cases r1
    exact ⟨n, rfl, h3, h2, q _ H1 _ g1 k1 hP (src_rng 0 _)⟩
def zipD (ds es : List D) : List D := List.zipWith (fun x y => .tup [x, y]) ds es
theorem zipD_get {ds es : List D} {i : Nat} {d : D} (h : (zipD ds es)[i]? = some d) : ∃ x y, ds[i]? = some x ∧ es[i]? = some y ∧ d = .tup [x, y] := by
  unfold zipD at h
  rw [List.getElem?_zipWith] at h
  cases hx : ds[i]? with
  | none => rw [hx] at h; simp at h
  | some x =>
    cases hy : es[i]? with
    | none => rw [hx, hy] at h; simp at h
    | some y =>
      rw [hx, hy] at h
      exact ⟨x, y, rfl, rfl, (Option.some.inj h).symm⟩
theorem src_zipT {M : Addr → Prop} {H1 : Hp} {a b : Addr} {vs us : List V} {ds es : List D} (w : Wf W M H1) (hs : SqT W.K H1 a vs) (hr : Reps W M H1 vs ds) (hs' : SqT W.K H1 b us) (hr' : Reps W M H1 us es) : Src W M (ItzT W.K a b) H1 (zipD ds es) := fun M' hm hn i H2 k g => by
  have wg : Wg W M' H1 := ⟨w.g, fun b e => hm b (w.sm b e)⟩
  have wg2 : Wg W M' H2 := ⟨g, fun b e => hm b (w.sm b e)⟩
  have hs2 := sqT_keepM wg (k.mono hm) hs
  have hs3 := sqT_keepM wg (k.mono hm) hs'
  have hr2 : Reps W M' H2 vs ds := (hr.more hn).keepM wg (k.mono hm)
  have hr3 : Reps W M' H2 us es := (hr'.more hn).keepM wg (k.mono hm)
  refine ⟨fun hl => ⟨vs, us, hs2, hs3, ?_⟩, fun d hd => ?_⟩
  · rw [hr2.length, hr3.length]
    unfold zipD at hl
    rw [List.length_zipWith] at hl
    omega
  · obtain ⟨x, y, hx, hy, rfl⟩ := zipD_get hd
    obtain ⟨v, hv, rv⟩ := hr2.get hx
    obtain ⟨u, hu, ru⟩ := hr3.get hy
    refine ⟨⟨vs, us, v, u, hs2, hs3, hv, hu⟩, fun z H3 yy => ?_⟩
    obtain ⟨T, x1, y1, rfl, hT, rfl, f1, f2⟩ := yy
    have e1 := f1 vs hs2
    have e2 := f2 us hs3
    rw [hv] at e1
    rw [hu] at e2
    cases e1
    cases e2
    have kn : Keep W H2 (upd H2 T (.tup [v, u])) := Keep.new hT
    exact ⟨g.new hT, kn, .tup (SqT.of upd_same) (.cons (rv.keepG wg2 kn) (.cons (ru.keepG wg2 kn) .nil))⟩
theorem it_zipT {P : List D → Prop} {ta : TA} (h : EvA W ta δ fun xs => ∃ ds es, xs = [.tup ds, .tup es] ∧ P (zipD ds es)) : IterD W (iZipA W.K ta) δ P := fun M σ H p R q => h M σ H p _ fun vs ds H1 g1 k1 r1 h1 => by
  obtain ⟨ds, es, rfl, hP⟩ := h1
  cases r1 with
  | cons r1 r2 =>
    cases r2 with
    | cons r2 r3 =>
      cases r3
      cases r1 with
      | tup hs hr =>
        cases r2 with
        | tup hs' hr' => exact ⟨_, _, _, _, rfl, .inr ⟨hs, hs', q _ H1 _ g1 k1 hP (src_zipT (p.wf.next g1 k1) hs hr hs' hr')⟩⟩
theorem sd_for {wi : TI} (h : IterD W wi δ fun ds => ∃ Inv : Nat → DS → Prop, Inv 0 δ ∧ (∀ i d δ', ds[i]? = some d → Inv i δ' → ∃ js, GD W g d δ' js fun δ2 => SX W Wx ts δ2 (Inv (i + 1)) R N (Inv (i + 1)) X) ∧ ∀ δ', Inv ds.length δ' → N δ') : SX W Wx (tFor wi g ts) δ N R B C X := fun M0 H0 M σ H E p e o =>
  h M σ H p _ fun J H1 ds g1 k1 ⟨I, i0, it, ie⟩ src => by
    refine ⟨fun i m σ' H' => m = ds.length - i ∧ i ≤ ds.length ∧ ∃ M' δ', Pre W M' δ' σ' H' ∧ Ent W M H1 M' H' ∧ I i δ', ⟨_, rfl, Nat.zero_le _, M, δ, p.next g1 k1, ⟨Keep.refl _, fun _ x => x, fun a x y => absurd x y⟩, i0⟩, ?_⟩
    rintro i m σ' H' ⟨rfl, hi, M', δ', p', e', hI⟩
    have base : ∀ {M2 : Addr → Prop} {H2 : Hp}, Ent W M H1 M2 H2 → Ent W M0 H0 M2 H2 := fun {M2 H2} x => ⟨(e.k.trans k1).trans x.k, fun a ha => x.m a (e.m a ha), fun a ha hn => by
      by_cases hM : M a
      · exact e.new a hM hn
      · have h1 := x.new a ha hM
        cases h0 : H0 a with
        | none => rfl
        | some oo =>
          have ns : ¬ W.S a := fun z => hM (p.wf.sm a z)
          rw [k1 a oo ns (e.k a oo ns h0)] at h1
          cases h1⟩
    obtain ⟨s1, s2⟩ := src M' e'.m e'.new i H' e'.k.toM p'.wf.g
    by_cases hlt : i < ds.length
    · obtain ⟨hgo, hy⟩ := s2 ds[i] (List.getElem?_eq_getElem hlt)
      refine .inr ⟨hgo, fun σ2 H2 => ∃ M2 δ2, Pre W M2 δ2 σ2 H2 ∧ Ent W M H1 M2 H2 ∧ I (i + 1) δ2, ?_, fun x H3 y => ?_⟩
      · rintro σ2 H2 ⟨M2, δ2, q1, q2, q3⟩
        exact ⟨_, by omega, rfl, hlt, M2, δ2, q1, q2, q3⟩
      · obtain ⟨g3, k3, r3⟩ := hy x H3 y
        obtain ⟨js, hg⟩ := it i ds[i] δ' (List.getElem?_eq_getElem hlt) hI
        refine hg M' σ' H3 x (p'.next g3 k3) r3 _ fun σ4 δ4 p4 hb _ => ?_
        refine hb M H1 M' σ4 H3 _ p4 (e'.next k3) ⟨fun M5 σ5 δ5 H5 p5 e5 x5 => ⟨M5, δ5, p5, e5, x5⟩, fun v d H5 g5 k5 r5 x5 => o.rt v d H5 g5 ((e.k.trans k1).trans k5) (r5.anti e.m) x5, fun M5 σ5 δ5 H5 p5 e5 x5 => o.nx M5 σ5 δ5 H5 p5 (base e5) x5, fun M5 σ5 δ5 H5 p5 e5 x5 => ⟨M5, δ5, p5, e5, x5⟩, fun M5 σ5 δ5 H5 cls d5 x5 p5 e5 r5 h5 => o.xw M5 σ5 δ5 H5 cls d5 x5 p5 (base e5) r5 h5⟩
    · have ee : i = ds.length := by omega
      refine .inl ⟨s1 ee, o.nx M' σ' δ' H' p' (base e') (ie δ' ?_)⟩
      rw [← ee]
      exact hI
/-- what gives a list that was not there before -/
def EvF (W : Wd) (te : TE) (δ : DS) (P : List D → Prop) : Prop := ∀ (M : Addr → Prop) (σ : L2.St) (H : Hp), Pre W M δ σ H → ∀ Q : VK,
  (∀ (a : Addr) (vs : List V) (ds : List D) (H' : Hp), StOk W H' → Keep W H H' → H a = none → ¬ M a → H' a = some (.lst vs) → Reps W (fun b => M b ∨ b = a) H' vs ds → P ds → Q (.ref a) H') → te σ H Q
theorem ev_ofF {P : D → Prop} (h : EvF W te δ fun ds => P (.lst ds)) : EvD W te δ P := fun M σ H p Q q => h M σ H p Q fun a vs ds H' g k hn nm hv r hP => q _ (.lst ds) H' g k (.lst nm hv (r.anti fun _ x => .inl x)) hP
theorem ev_lcF1 {wi : TI} {tt : TT} {vs : List Nat} {P : List D → Prop} {M : Addr → Prop} {σ : L2.St} {H : Hp} (p : Pre W M δ σ H) (h : ∀ R : It → Hp → Prop, (∀ (J : It) (H1 : Hp) (ds : List D), StOk W H1 → Keep W H H1 → (ds.length ≤ 100000 ∧ ∃ Inv : Nat → List D → Prop, Inv 0 [] ∧
    (∀ i d acc, ds[i]? = some d → Inv i acc → ∃ js, (∀ j ∈ js, j ∈ vs) ∧ GD W g d (wipeD δ vs) js fun δ2 => EvT W tt δ2 fun b => (b = true → EvD W te δ2 fun y => Inv (i + 1) (acc ++ [y])) ∧ (b = false → Inv (i + 1) acc)) ∧ ∀ acc, Inv ds.length acc → P acc) → Src W M J H1 ds → R J H1) → wi σ H R) :
    ∀ Q : VK, (∀ (a : Addr) (vs : List V) (ds : List D) (H' : Hp), StOk W H' → Keep W H H' → H a = none → ¬ M a → H' a = some (.lst vs) → Reps W (fun b => M b ∨ b = a) H' vs ds → P ds → Q (.ref a) H') → tLc wi g tt te vs σ H Q := fun Q q =>
  h _ fun J H1 ds g1 k1 ⟨hlen, I, i0, it, ie⟩ src => by
    intro Dl hD
    have p1 := p.next g1 k1
    let M' : Addr → Prop := fun a => M a ∨ a = Dl
    have hm : ∀ a, M a → M' a := fun a x => .inl x
    have hn : ∀ a, M' a → ¬ M a → H1 a = none := fun a x y => by
      rcases x with x | x
      · exact absurd x y
      · rw [x]; exact hD
    have hns : ¬ W.S Dl := fun z => by
      obtain ⟨_, q⟩ := StOk.at g1 z
      rw [hD] at q
      cases q
    have notM : ¬ M Dl := fun m => by
      obtain ⟨o, ho⟩ := p1.wf.dom Dl m
      rw [hD] at ho
      cases ho
    refine ⟨fun i m H' => m = ds.length - i ∧ i ≤ ds.length ∧ ∃ acc vs', Keep W H1 H' ∧ StOk W H' ∧ H' Dl = some (.lst vs') ∧ Reps W M' H' vs' acc ∧ acc.length ≤ i ∧ I i acc, ⟨_, rfl, Nat.zero_le _, [], [], Keep.new hD, g1.new hD, upd_same, .nil, Nat.zero_le _, i0⟩, ?_⟩
    rintro i m H' ⟨rfl, hi, acc, vs', kH, gH, eD, rA, hal, hI⟩
    have wf' : Wf W M' H' := ⟨gH, fun a z => .inl (p.wf.sm a z), fun a x => by
      rcases x with x | x
      · exact (p1.wf.next gH kH).dom a x
      · rw [x]; exact ⟨_, eD⟩⟩
    obtain ⟨s1, s2⟩ := src M' hm hn i H' kH.toM gH
    by_cases hlt : i < ds.length
    · obtain ⟨hgo, hy⟩ := s2 ds[i] (List.getElem?_eq_getElem hlt)
      refine .inr ⟨hgo, fun H2 => ∃ acc vs', Keep W H1 H2 ∧ StOk W H2 ∧ H2 Dl = some (.lst vs') ∧ Reps W M' H2 vs' acc ∧ acc.length ≤ i + 1 ∧ I (i + 1) acc, ?_, fun x H3 y => ?_⟩
      · rintro H2 ⟨acc2, vs2, z⟩
        exact ⟨_, by omega, rfl, hlt, acc2, vs2, z⟩
      · obtain ⟨g3, k3, r3⟩ := hy x H3 y
        have wf3 := wf'.next g3 k3
        obtain ⟨js, hjs, hg⟩ := it i ds[i] acc (List.getElem?_eq_getElem hlt) hI
        have sl : Slots W M' H3 (wipe σ vs) (wipeD δ vs) := by
          have s0 : Slots W M H1 (wipe σ vs) (wipeD δ vs) := p1.sl.wipe vs
          have wg : Wg W M' H1 := ⟨g1, fun a z => .inl (p.wf.sm a z)⟩
          exact ⟨s0.len, fun j d hd => by
            obtain ⟨v, a1, a2⟩ := s0.get j d hd
            exact ⟨v, a1, (a2.more hn).keepG wg (kH.trans k3)⟩⟩
        refine hg M' (wipe σ vs) H3 x ⟨wf3, sl⟩ r3 _ fun σ4 δ4 p4 hb hw => ?_
        refine ⟨by rw [hw vs hjs, wipe_wipe], ?_⟩
        refine hb M' σ4 H3 p4 _ fun b H5 g5 k5 h5 => ?_
        have p5 := p4.next g5 k5
        have eD5 : H5 Dl = some (.lst vs') := k5 Dl _ hns (k3 Dl _ hns eD)
        have rA5 : Reps W M' H5 vs' acc := (rA.keep wf' k3).keep wf3 k5
        cases b with
        | true =>
          rw [if_pos rfl]
          refine h5.1 rfl M' σ4 H5 p5 _ fun v d H6 g6 k6 r6 h6 => ?_
          have eD6 : H6 Dl = some (.lst vs') := k6 Dl _ hns eD5
          have kU : ∀ a o, a ≠ Dl → H6 a = some o → (upd H6 Dl (.lst (vs' ++ [v]))) a = some o := fun a o na ho => by rw [upd_ne na]; exact ho
          have gU : StOk W (upd H6 Dl (.lst (vs' ++ [v]))) := fun s hs => by
            obtain ⟨ns, i', c, m, q1, q2, q3, q4⟩ := g6 s hs
            refine ⟨ns, i', c, m, kU s _ (fun z => hns (Wd.S_of hs z.symm)) q1, q2, kU W.b _ (fun z => ?_) q3, q4⟩
            obtain ⟨ns0, i0', c0, m0, q10, q20, q30, q40⟩ := g1 s hs
            rw [z, hD] at q30
            cases q30
          have kX : ∀ {H7 : Hp}, Keep W H1 H7 → Keep W H1 (upd H7 Dl (.lst (vs' ++ [v]))) := fun kk a o ns ho => by
            rw [upd_ne (ne_of_none ho hD)]
            exact kk a o ns ho
          refine ⟨vs', eD6, ?_, acc ++ [d], vs' ++ [v], kX (((kH.trans k3).trans k5).trans k6), gU, upd_same, ?_, ?_, h6⟩
          · rw [(rA5).length]
            exact Nat.lt_of_lt_of_le (Nat.lt_of_le_of_lt hal (Nat.lt_of_lt_of_le hlt hlen)) (by decide)
          · exact ((rA5.keep p5.wf k6).append (.cons r6 .nil)).upd (rdT_lst eD6) (.inr rfl)
          · simp; omega
        | false =>
          rw [if_neg Bool.false_ne_true]
          exact ⟨acc, vs', ((kH.trans k3).trans k5), g5, eD5, rA5, by omega, h5.2 rfl⟩
    · have ee : i = ds.length := by omega
      refine .inl ⟨s1 ee, q Dl vs' acc H' gH (k1.trans kH) ?_ notM eD rA (ie acc (ee ▸ hI))⟩
      cases z : H Dl with
      | none => rfl
      | some oo =>
        rw [k1 Dl oo hns z] at hD
        cases hD
theorem ev_lcF {wi : TI} {tt : TT} {vs : List Nat} {P : List D → Prop} (h : IterD W wi δ fun ds => ds.length ≤ 100000 ∧ ∃ Inv : Nat → List D → Prop, Inv 0 [] ∧
    (∀ i d acc, ds[i]? = some d → Inv i acc → ∃ js, (∀ j ∈ js, j ∈ vs) ∧ GD W g d (wipeD δ vs) js fun δ2 => EvT W tt δ2 fun b => (b = true → EvD W te δ2 fun y => Inv (i + 1) (acc ++ [y])) ∧ (b = false → Inv (i + 1) acc)) ∧ ∀ acc, Inv ds.length acc → P acc) :
    EvF W (tLc wi g tt te vs) δ P := fun M σ H p Q q => ev_lcF1 p (h M σ H p) Q q
theorem ev_lc {wi : TI} {tt : TT} {vs : List Nat} {P : D → Prop} (h : IterD W wi δ fun ds => ds.length ≤ 100000 ∧ ∃ Inv : Nat → List D → Prop, Inv 0 [] ∧
    (∀ i d acc, ds[i]? = some d → Inv i acc → ∃ js, (∀ j ∈ js, j ∈ vs) ∧ GD W g d (wipeD δ vs) js fun δ2 => EvT W tt δ2 fun b => (b = true → EvD W te δ2 fun y => Inv (i + 1) (acc ++ [y])) ∧ (b = false → Inv (i + 1) acc)) ∧ ∀ acc, Inv ds.length acc → P (.lst acc)) :
    EvD W (tLc wi g tt te vs) δ P := ev_ofF (ev_lcF h)
end
end PD
namespace PD
open PySem PySem.Spec PyProof.Rows L2
open RZ (iZipA ItzT)
abbrev fr (p : Fr) : D := .tup [.int p.1, .int p.2]
def Sz (n : Nat) (p : Fr) : Prop := p.1.natAbs < 2 ^ n ∧ p.2.natAbs < 2 ^ n
abbrev un (l : List Fr) : D := .tup (l.map fr)
/-- an item of a written list, whichever -/
theorem rd_ixLm {W : Wd} {P : D → Prop} {r : Int} {ds : List D} (h0 : 0 ≤ r) (h1 : r < ds.length) (hP : ∀ d ∈ ds, P d) : RD W (rIx W.K) (.lst ds) (.int r) P := by
  obtain ⟨j, rfl⟩ := Int.eq_ofNat_of_zero_le h0
  have hj : j < ds.length := by omega
  exact rd_ixL (j := j) rfl (List.getElem?_eq_getElem hj) (hP _ (List.getElem_mem hj))
theorem cpow_ok {i j : Int} (h : (decide (0 ≤ j) && (decide (j ≤ 1000000) && decide (i.natAbs < 18446744073709551616))) = true) : CPow i j := by
  rw [Bool.and_eq_true, Bool.and_eq_true] at h
  exact ⟨of_decide_eq_true h.1, of_decide_eq_true h.2.1, of_decide_eq_true h.2.2⟩
theorem sz40 {r : Int} (h : r.natAbs < 10000000000000000000000000000000000000000) : r.natAbs < 2 ^ 134 := Nat.lt_trans h (by decide)
def D.toI : D → Int
  | .int i => i
  | _ => 0
def isFr : D → Bool
  | .tup [a, b] => a.isInt && b.isInt && decide (1 ≤ b.toI) && decide (gcdI a.toI b.toI = 1)
  | _ => false
theorem isFr_ints {i j : Int} (h : 1 ≤ j) : isFr (.tup [.int i, .int j]) = decide (((Nat.gcd i.natAbs j.natAbs : Nat) : Int) = 1) := by
  show (true && true && decide (1 ≤ j) && decide (gcdI i j = 1)) = _
  rw [decide_eq_true h, Bool.true_and, Bool.true_and, Bool.true_and]
  exact decide_eq_decide.mpr ⟨fun z => by unfold gcdI at z; omega, fun z => by unfold gcdI; omega⟩
theorem isFr_low {i j : Int} (h : ¬ 1 ≤ j) : isFr (.tup [.int i, .int j]) = false := by
  show (true && true && decide (1 ≤ j) && decide (gcdI i j = 1)) = _
  rw [decide_eq_false h, Bool.and_false, Bool.false_and]
theorem isFr_fr {p : Fr} (h : IsF p) : isFr (fr p) = true := by
  show (true && true && decide (1 ≤ p.2) && decide (gcdI p.1 p.2 = 1)) = true
  rw [decide_eq_true h.1, decide_eq_true h.2]
  rfl
theorem isInt_of {x : D} (h : x.isInt = true) : ∃ i, x = .int i := by
  cases x <;> first | cases h; done | exact ⟨_, rfl⟩
def isAny : D → Bool
  | .tup xs => decide (1 ≤ xs.length) && decide (xs.length ≤ 3) && xs.all isFr
  | _ => false
def D.len : D → Int
  | .tup xs => xs.length
  | _ => -1
theorem zipD_len2 (xs ys : List D) : (zipD xs ys).length = min xs.length ys.length := by unfold zipD; exact List.length_zipWith
mutual
/-- no int within is great -/
def D.small : D → Bool
  | .int i => decide (i.natAbs < 2 ^ 8000)
  | .tup xs | .lst xs => D.smalls xs
  | _ => true
def D.smalls : List D → Bool
  | [] => true
  | x :: xs => x.small && D.smalls xs
end
theorem fr_small {p : Fr} (h : Sz 8000 p) : D.small (fr p) = true := by
  simp only [D.small, D.smalls, Bool.and_true, Bool.and_eq_true]
  exact ⟨decide_eq_true h.1, decide_eq_true h.2⟩
def isUn (n : Int) : D → Bool
  | .tup xs => decide ((xs.length : Int) = n) && xs.all isFr
  | _ => false
theorem isUn_un {l : List Fr} {n : Int} (h1 : (l.length : Int) = n) (h : ∀ p ∈ l, IsF p) : isUn n (un l) = true := by
  show (decide (((l.map fr).length : Int) = n) && (l.map fr).all isFr) = true
  rw [List.length_map, decide_eq_true h1, List.all_map]
  simp only [Bool.true_and, List.all_eq_true]
  exact fun p hp => isFr_fr (h p hp)
theorem fr_fine (p : Fr) : D.fine (fr p) = true := by
  simp [D.fine, D.plain, D.plains, D.py, D.pys, SeqAt.shaped, PyData.canLay0, PyData.canLayAll0, PyData.depth, PyData.depthAll]
theorem fr_eqv (p q : Fr) : D.eqv (fr p) (fr q) = decide (p = q) := by
  obtain ⟨a, b⟩ := p
  obtain ⟨c, d⟩ := q
  show PyData.eqv (D.py _) (D.py _) = _
  simp only [D.py, D.pys, PyData.eqv, PyData.eqvAll, Bool.and_true]
  by_cases h1 : a = c
  · by_cases h2 : b = d
    · subst h1 h2; simp
    · simp [h1, h2]
  · simp [h1]
theorem eqv_refl0 {d : PyData} (h : d.canLay0 = true) : PyData.eqv d d = true := SeqAt.eqv_refl d h
theorem D.eqv_self {d : D} (h : d.fine = true) : d.eqv d = true := by
  have h1 := (Bool.and_eq_true_iff.mp h).2
  exact eqv_refl0 (SeqAt.canLay_of_shaped h1)
/-- a def of the text as the top leaves it -/
structure DefT (K : PySem.W.Frag) (mg : Str → Option Value) (x : Str) (st : Stmt) (ps : List Str) where
  f : Addr
  d : FuncData
  F : L2.Fun K x x st f d
  g : mg x = some (.ref f)
  b : Binds K d ps []
section
variable {X : Cx} {K : PySem.W.Frag}
theorem ix_seqK (h : X.K = K) : IxR X (rIx K) := by subst h; exact ix_seq
theorem op_eqDK (h : X.K = K) (hu : X.A.units + 64 < cLine) : OpR X (compareOp .Eq) (rEqD K) := by subst h; exact op_eqD hu
theorem op_neDK (h : X.K = K) (hu : X.A.units + 64 < cLine) : OpR X (compareOp .NotEq) (rNeD K) := by subst h; exact op_neD hu
theorem op_plusK (h : X.K = K) : OpR X (binaryOp .Add) (rPlus K) := by subst h; exact op_plus
theorem cr_allK (h : X.K = K) (hc : X.calm = true) : CallR X (.builtin "all") (rAll K) := by subst h; exact cr_all hc
theorem call_isiK' (h : X.K = K) : CallR X (.builtin "isinstance") (rIsi K) := by subst h; exact call_isi
theorem call_lenK (h : X.K = K) : CallR X (.builtin "len") (fun xs H Q => ∃ x n, xs = [x] ∧ LenV K x H n ∧ Q (.int n) H) := by subst h; exact call_len
theorem call_tuple_ofK (h : X.K = K) : CallR X (.type "tuple") (fun xs H Q => ∃ p ys, xs = [.ref p] ∧ ((SqL K H p ys ∧ ∀ l, H l = none → Q (.ref l) (upd H l (.tup ys))) ∨ (SqT K H p ys ∧ Q (.ref p) H))) := by subst h; exact call_tuple_of
theorem call_list_ofK (h : X.K = K) : CallR X (.type "list") (fun xs H Q => ∃ p ys, xs = [.ref p] ∧ (SqL K H p ys ∨ SqT K H p ys) ∧ ∀ l, H l = none → Q (.ref l) (upd H l (.lst ys))) := by subst h; exact call_list_of
theorem pi_seqK {tg iter : Expr} {tl : TE} (h : X.K = K) (hl : PE X iter tl) : PI X tg iter (iSeq K tl) := by subst h; exact pi_seq (pi_list hl) (pi_tup hl)
theorem pi_zipAK {e e2 : Expr} {ta : TA} {p pos tpos : Pos} {elts : List Expr} {kk : Nat} (h : X.K = K) (hg : Gl X "zip") (hm : X.mg "zip" = none) (ha : PA X [e, e2] ta)
    (hs : starEach [e, e2] X.env = (false, eval e X.env) :: starEach [e2] X.env := by rfl) (hpl : (backTo pos (starEach [e2] X.env)).any (·.1) = false := by rfl) :
    PI X (.Tuple elts kk tpos) (.Call (.Name "zip" p) [e, e2] [] pos) (iZipA K ta) := by subst h; exact RZ.pi_zipA hg hm ha hs hpl
theorem pg_tupK {es : List Expr} {k : Nat} {t : TGs} {n : Nat} {pos : Pos} (h : X.K = K) (hc : X.calm = true) (ht : PGs X es t)
    (hn : (assignEach es X.env).length = n := by rfl) (hst : (assignEach es X.env).findIdx? (·.1) = none := by rfl) : PG X (.Tuple es k pos) (gTup K n t) := by subst h; exact pg_tup hc ht hn hst
theorem sl_tupAK (h : X.K = K) : SlR X (rSlA K) := by subst h; exact sl_tupA
end
theorem hr_u {k : Nat} {A : Around} (hr : Room k A) : A.units + 64 < cLine := by
  have := hr.un
  omega
abbrev FD := List D → (D → Prop) → Prop
/-- a def's promise, by data -/
def spD (K : PySem.W.Frag) (F : FD) : Sp := fun vs H Q _ => ∃ (W : Wd) (M : Addr → Prop) (ds : List D) (P : D → Prop), W.K = K ∧ Wf W M H ∧ Reps W M H vs ds ∧ F ds P ∧ ∀ v d H', StOk W H' → Keep W H H' → Rep W M H' v d → P d → Q v H'
theorem spD_len {K : PySem.W.Frag} {F : FD} {n : Nat} (hF : ∀ ds P, F ds P → ds.length = n) (vs : List V) (H : Hp) (Q : VK) (E : XK) (h : spD K F vs H Q E) : vs.length = n := by
  obtain ⟨W, M, ds, P, _, _, r, f, _⟩ := h
  rw [r.length]
  exact hF ds P f
theorem ev_call {W : Wd} {δ : DS} {F : FD} {E : XK} {ta : TA} {P : D → Prop} (h : EvA W ta δ fun ds => F ds P) : EvD W (tCall (spD W.K F) [] E ta) δ P := fun M σ H p Q q =>
  h M σ H p _ fun vs ds H1 g1 k1 r1 h1 => ⟨W, M, ds, P, rfl, p.wf.next g1 k1, by rw [List.append_nil]; exact r1, h1, fun v d H2 g2 k2 r2 h2 => q v d H2 g2 (k1.trans k2) r2 h2⟩
def startD (n : Nat) (ds : List D) : DS := ds.map some ++ List.replicate (n - ds.length) none
theorem start_slots {W : Wd} {M : Addr → Prop} {H : Hp} {vs : List V} {ds : List D} (N : List Str) (r : Reps W M H vs ds) : Slots W M H (L2.start N vs) (startD N.length ds) where
  len := by simp [L2.start, startD, r.length]
  get := fun i d h => by
    unfold startD at h
    unfold L2.start
    by_cases hl : i < ds.length
    · rw [List.getElem?_append_left (by rw [List.length_map]; exact hl), List.getElem?_map] at h
      have e : ds[i]? = some d := by
        rw [List.getElem?_eq_getElem hl] at h ⊢
        exact Option.some.inj h
      obtain ⟨v, h1, h2⟩ := r.get e
      refine ⟨v, ?_, h2⟩
      rw [List.getElem?_append_left (by rw [List.length_map, r.length]; exact hl), List.getElem?_map, h1]
      rfl
    · rw [List.getElem?_append_right (by rw [List.length_map]; omega)] at h
      have := List.mem_of_getElem? h
      rw [List.mem_replicate] at this
      cases this.2
theorem body_of {K : PySem.W.Frag} {F : FD} {vs : List V} {H : Hp} {Q : VK} {E : XK} {N : List Str} {t : TS} (h : spD K F vs H Q E)
    (hb : ∀ W ds P, W.K = K → F ds P → SD W t (startD N.length ds) (fun _ => P .non) P (fun _ => False) (fun _ => False)) : t { nx := fun _ H' => Q .non H', rt := Q } (L2.start N vs) H := by
  obtain ⟨W, M, ds, P, e, w, r, f, q⟩ := h
  exact hb W ds P e f M H M _ H _ ⟨w, start_slots N r⟩ ⟨Keep.refl _, fun _ x => x, fun a x y => absurd x y⟩
    ⟨fun M' σ' δ' H' p' e' x => q .non .non H' p'.wf.g e'.k .non x, fun v d H' g k r' x => q v d H' g k r' x, fun _ _ _ _ _ _ x => x.elim, fun _ _ _ _ _ _ x => x.elim, fun _ _ _ _ _ _ _ _ _ _ x => x.elim⟩
def spLaw (K : PySem.W.Frag) : Sp := fun vs H Q _ => ∃ (a : Addr) (ns : List Int), vs = [.ref a] ∧ SqL K H a (ns.map V.int) ∧ ns.length ≤ 63 ∧ ∀ H', Q (.bl true) H'
theorem et_yes {W : Wd} {δ : DS} {P : Bool → Prop} (h : P true) : EvT W tYes δ P := fun M σ H p Q q => q true H p.wf.g (Keep.refl H) h
theorem take_snoc {α : Type} {l : List α} {i : Nat} {x : α} (h : l[i]? = some x) : l.take i ++ [x] = l.take (i + 1) := by
  rw [List.take_add_one, h]
  rfl
/-- the list that comes is known: L -/
theorem ev_lcLF {W : Wd} {δ : DS} {wi : TI} {g : TG} {te : TE} {vs : List Nat} {P : List D → Prop} (h : IterD W wi δ fun ds => ds.length ≤ 100000 ∧ ∃ L : List D, L.length = ds.length ∧
    (∀ (i : Nat) (d y : D), ds[i]? = some d → L[i]? = some y → ∃ js, (∀ j ∈ js, j ∈ vs) ∧ GD W g d (wipeD δ vs) js fun δ2 => EvD W te δ2 fun z => z = y) ∧ P L) : EvF W (tLc wi g tYes te vs) δ P :=
  ev_lcF fun M σ H p R q => h M σ H p R fun J H1 ds g1 k1 ⟨hl, L, hL, hs, hP⟩ => q J H1 ds g1 k1 ⟨hl, fun i acc => acc = L.take i, rfl, fun i d acc hd ha => by
    have hi : i < L.length := by rw [hL]; exact (List.getElem?_eq_some_iff.mp hd).1
    have hy : L[i]? = some L[i] := List.getElem?_eq_getElem hi
    obtain ⟨js, h1, h2⟩ := hs i d _ hd hy
    refine ⟨js, h1, fun M σ H v p r Q q => h2 M σ H v p r Q fun σ' δ' p' e' w' => q σ' δ' p' (et_yes ⟨fun _ => ev_mono e' fun z hz => ?_, fun z => by cases z⟩) w'⟩
    rw [ha, hz]
    exact take_snoc hy, fun acc ha => by
    rw [ha, ← hL, List.take_length]
    exact hP⟩
theorem ev_lcL {W : Wd} {δ : DS} {wi : TI} {g : TG} {te : TE} {vs : List Nat} {P : D → Prop} (h : IterD W wi δ fun ds => ds.length ≤ 100000 ∧ ∃ L : List D, L.length = ds.length ∧
    (∀ (i : Nat) (d y : D), ds[i]? = some d → L[i]? = some y → ∃ js, (∀ j ∈ js, j ∈ vs) ∧ GD W g d (wipeD δ vs) js fun δ2 => EvD W te δ2 fun z => z = y) ∧ P (.lst L)) : EvD W (tLc wi g tYes te vs) δ P := ev_ofF (ev_lcLF h)
/-- of the items that come something is known: G -/
theorem ev_lcAll {W : Wd} {δ : DS} {wi : TI} {g : TG} {te : TE} {vs : List Nat} {P : D → Prop} (G : D → Prop) (h : IterD W wi δ fun ds => ds.length ≤ 100000 ∧
    (∀ (i : Nat) (d : D), ds[i]? = some d → ∃ js, (∀ j ∈ js, j ∈ vs) ∧ GD W g d (wipeD δ vs) js fun δ2 => EvD W te δ2 G) ∧ ∀ l : List D, l.length = ds.length → (∀ y ∈ l, G y) → P (.lst l)) : EvD W (tLc wi g tYes te vs) δ P :=
  ev_lc fun M σ H p R q => h M σ H p R fun J H1 ds g1 k1 ⟨hl, hs, hP⟩ => q J H1 ds g1 k1 ⟨hl, fun i acc => acc.length = i ∧ ∀ y ∈ acc, G y, ⟨rfl, fun y hy => by cases hy⟩, fun i d acc hd ha => by
    obtain ⟨js, h1, h2⟩ := hs i d hd
    refine ⟨js, h1, fun M σ H v p r Q q => h2 M σ H v p r Q fun σ' δ' p' e' w' => q σ' δ' p' (et_yes ⟨fun _ => ev_mono e' fun z hz => ⟨?_, fun y hy => ?_⟩, fun z => by cases z⟩) w'⟩
    · rw [List.length_append, ha.1]
      rfl
    · rcases List.mem_append.mp hy with hy | hy
      · exact ha.2 y hy
      · rw [List.mem_singleton.mp hy]
        exact hz, fun acc ha => hP acc ha.1 ha.2⟩
theorem lt_pow {n m k : Nat} (h : n < 2 ^ m) (hk : m ≤ k) : n < 2 ^ k := Nat.lt_of_lt_of_le h (Nat.pow_le_pow_right (by decide) hk)
theorem Sz.mono {n m : Nat} {p : Fr} (h : Sz n p) (hm : n ≤ m) : Sz m p := ⟨lt_pow h.1 hm, lt_pow h.2 hm⟩
theorem mul_ok {i j : Int} (h1 : i.natAbs < 2 ^ 2000) (h2 : j.natAbs < 2 ^ 2000) : CMulW i j := wide_mul h1 h2 (by decide) (by decide) (by decide)
theorem mul_okN {i j : Int} {m n : Nat} (h1 : i.natAbs < 2 ^ m) (h2 : j.natAbs < 2 ^ n) (h : m + n ≤ 900000) : CMulW i j :=
  wide_mul (a := m + 1) (b := n + 1) (Nat.lt_of_lt_of_le h1 (Nat.pow_le_pow_right (by decide) (Nat.le_succ _))) (Nat.lt_of_lt_of_le h2 (Nat.pow_le_pow_right (by decide) (Nat.le_succ _))) (Nat.succ_pos _) (Nat.succ_pos _) (by omega)
theorem mul_lt {i j : Int} {m n : Nat} (h1 : i.natAbs < 2 ^ m) (h2 : j.natAbs < 2 ^ n) : (i * j).natAbs < 2 ^ (m + n) := by
  rw [Int.natAbs_mul, Nat.pow_add]
  exact Nat.mul_lt_mul'' h1 h2
theorem prod_sz {i j : Int} (h1 : i.natAbs < 2 ^ 2000) (h2 : j.natAbs < 2 ^ 2000) : (i * j).natAbs < 2 ^ 8000 := lt_pow (mul_lt h1 h2) (by decide)
theorem div_ok {i j : Int} (h : 0 < j) (hb : j.natAbs < 2 ^ 8000) : CDivW i j := wide_div h hb (by decide) (by decide)
theorem mul_small {i j : Int} (h1 : -1000000000000 < i) (h2 : i < 1000000000000) (h3 : -1000000000000 < j) (h4 : j < 1000000000000) : CMulW i j :=
  wide_mul (a := 60) (b := 60) (by have : (2 : Nat) ^ 60 = 1152921504606846976 := by decide
                                   omega) (by have : (2 : Nat) ^ 60 = 1152921504606846976 := by decide
                                              omega) (by decide) (by decide) (by decide)
theorem div_small {i j : Int} (h1 : 0 < j) (h2 : j < 1000000000000) : CDivW i j :=
  wide_div (b := 60) h1 (by have : (2 : Nat) ^ 60 = 1152921504606846976 := by decide
                            omega) (by decide) (by decide)
theorem div_gcd {a b i : Int} (hb : 0 < b) (hs : b.natAbs < 2 ^ 8000) : CDivW i (gcdI a b : Int) := by
  have h1 := gcdI_pos (a := a) (b := b) (by omega)
  have h2 := gcdI_le (a := a) (b := b) (by omega)
  exact div_ok (by omega) (by omega)
theorem low_sz {a b : Int} {n : Nat} (ha : a.natAbs < 2 ^ n) (hb : b.natAbs < 2 ^ n) : Sz n (lowF a b) := by
  have d1 := gcdI_dvd1 a b
  have d2 := gcdI_dvd2 a b
  constructor
  · show (a / (gcdI a b : Int)).natAbs < 2 ^ n
    rw [Int.natAbs_ediv_of_dvd d1]
    exact Nat.lt_of_le_of_lt (Nat.div_le_self _ _) ha
  · show (b / (gcdI a b : Int)).natAbs < 2 ^ n
    rw [Int.natAbs_ediv_of_dvd d2]
    exact Nat.lt_of_le_of_lt (Nat.div_le_self _ _) hb
theorem add_lt {i j : Int} {n : Nat} (h1 : i.natAbs < 2 ^ n) (h2 : j.natAbs < 2 ^ n) : (i + j).natAbs < 2 ^ (n + 1) := by
  rw [Nat.pow_succ]
  omega
end PD
namespace PDI
open PySem PySem.Spec L2 PyProof.Rows
open AutoSeq1 (wpAny_loadPart')
/-- the two objects that enumerate(t) lays -/
def eIt (l : Addr) : Obj := { cls := .type "tuple_iterator", data := .fields #[.ref l, .int 0 0] }
def eOb (i : Addr) : Obj := { cls := .type "enumerate", data := .fields #[.none, .bool false, .ref i, rawInt 0, .none, .none] }
def eHeap (h : Heap) (l : Addr) : Heap := (h.push (eIt l)).push (eOb h.objs.size)
theorem eHeap_keep {h : Heap} {l b : Addr} {o : Obj} (e : h.get? b = some o) : (eHeap h l).get? b = some o := Heap.get?_push_of_some _ (Heap.get?_push_of_some _ e)
theorem eHeap_it (h : Heap) (l : Addr) : (eHeap h l).get? h.objs.size = some (eIt l) := Heap.get?_push_of_some _ (Heap.get?_push_size _ rfl)
theorem eHeap_ob (h : Heap) (l : Addr) : (eHeap h l).get? (h.objs.size + 1) = some (eOb h.objs.size) := by
  have z := Heap.get?_push_size (h.push (eIt l)) (o := eOb h.objs.size) rfl
  rwa [Heap.size_push] at z
theorem new_enumT (l : Addr) (xs : Array Value) (n : Nat) (dd : Option Addr) (sl : Array (Option Value)) :
    Meets (Builtin.«enumerate.__new__» ⟨[.type "enumerate", .ref l], []⟩) fun _ R s => s.heap.get? l = some { cls := .type "tuple", dict := dd, data := .seq xs n, slots := sl } ∧ R (.ok (.ret (.ref (s.heap.push (eIt l)).objs.size))) { s with heap := eHeap s.heap l } :=
  Meets.of_wp fun prog w A R s ⟨hl, hR⟩ => by
    rcases s with ⟨heap, gens, dr, toks, os⟩
    have sub := sub_enumerate
    have tup : heap.IsTuple l xs := ⟨_, hl, rfl, n, rfl⟩
    unfold eHeap eIt eOb at hR
    wp_walk using wpAny_loadPart' hl
    refine wpAny_stack_any fun _ => wpAny_pure ?_
    split
    · rename_i c _ _ _ _ _
      cases (c == Value.type "enumerate") <;> (wp_walk using wpAny_loadPart' hl, wpAny_pyIter_tuple tup; exact ⟨_, rfl, hR⟩)
    · (wp_walk using wpAny_loadPart' hl, wpAny_pyIter_tuple tup; exact ⟨_, rfl, hR⟩)
theorem run_enumT {prog : Program} {w : World} {A : Around} {E Q : Value → Shared → Prop} {s : Shared} {l : Addr} {xs : Array Value} (t : s.heap.IsTuple l xs) (q : Q (.ref (s.heap.objs.size + 1)) { s with heap := eHeap s.heap l }) :
    wpAny (model prog w) A (call (.type "enumerate") [Value.ref l]) Q E s := by
  obtain ⟨⟨cls, dd, data, sl⟩, hl, ec, n, ed⟩ := t
  cases (show cls = .type "tuple" from ec)
  cases (show data = .seq xs n from ed)
  have sz : (s.heap.push (eIt l)).objs.size = s.heap.objs.size + 1 := Heap.size_push ..
  refine callType_new F.called_enumerate (by decide) (F.typeCall_enumerate_1 _) (F.newCall_enumerate_1 _) (fun ob => F.args_object_init_2 ob _) F.entry_enumerate_new (new_enumT l xs n dd sl) ⟨hl, ?_⟩
  show (∃ o, (eHeap s.heap l).get? (s.heap.push (eIt l)).objs.size = some o ∧ _) ∧ _
  rw [sz]
  exact ⟨⟨_, eHeap_ob _ _, rfl⟩, q⟩
/-- the tuple at a, its items in new pairs with their numbers -/
def IteT (K : PySem.W.Frag) (a : Addr) : It where
  go := fun i H => ∃ (xs : List V) (x : V), SqT K H a xs ∧ xs[i]? = some x
  yld := fun i H v H' => ∃ T x, v = .ref T ∧ H T = none ∧ H' = upd H T (.tup [.int (i : Nat), x]) ∧ ∀ xs, SqT K H a xs → xs[i]? = some x
  stop := fun i H => ∃ xs : List V, SqT K H a xs ∧ xs.length = i
/-- how the two objects stand at the i-th turn -/
structure EnSt (a e it : Addr) (i : Nat) (h : Heap) : Prop where
  ob : ∃ old, IsEnum h e it (i : Int) old
  ti : h.IsTupleIter it a i
  n1 : e ≠ it
  n2 : a ≠ it
  n3 : a ≠ e
theorem two {e it b : Addr} (h : b ∈ [e, it]) : b = e ∨ b = it := by
  rcases List.mem_cons.mp h with z | z
  · exact .inl z
  · exact .inr (List.mem_singleton.mp z)
theorem turn_enumT {P : Program} {w : World} {K : PySem.W.Frag} {elts : List Expr} {kk : Nat} {tpos : Pos} (a e it : Addr) : Turn P w K (.Tuple elts kk tpos) (IteT K a) [e, it] e (EnSt a e it) where
  mem := List.mem_cons_self
  obj := fun i h st b hb => by
    obtain ⟨old, he⟩ := st.ob
    obtain ⟨o, ho, _, hd⟩ := st.ti
    rcases two hb with rfl | rfl
    · refine ⟨_, he, ?_⟩
      intro v q
      cases q
    · refine ⟨o, ho, ?_⟩
      intro v q
      rw [hd] at q
      cases q
  keep := fun i h h' st k => by
    obtain ⟨old, he⟩ := st.ob
    refine ⟨⟨old, k e List.mem_cons_self _ he⟩, ?_, st.n1, st.n2, st.n3⟩
    exact st.ti.at fun o q => k it (List.mem_cons_of_mem _ List.mem_cons_self) o q
  item := by
    rintro X rfl rfl rfl calm i pins s σ H E I young st ⟨xs, x, hs, hx⟩
    obtain ⟨old, he⟩ := st.ob
    obtain ⟨us, rel, isT, _⟩ := I.tuple hs
    obtain ⟨u, hu, ru⟩ := rel.get hx
    have inE : e < s.heap.objs.size := Heap.lt_size he
    have inI : it < s.heap.objs.size := by
      obtain ⟨_, q, _⟩ := st.ti
      exact Heap.lt_size q
    have lt : i < us.toArray.size := by
      have := (List.getElem?_eq_some_iff.mp hu).1
      simpa using this
    have apart : e ∉ [it, a] := fun m => by
      rcases two m with z | z
      · exact st.n1 z
      · exact st.n3 z.symm
    refine wpAny_pyNext_enum_itemC (Draws.tuple (prog := X.prog) (w := X.w) (A := X.A.in1) (I.ok.hd calm) it a st.n2 us.toArray) he ⟨st.ti, isT⟩ lt st.n1 apart fun y h1 tk gy own it1 pair _ same => ?_
    have ey : y = u := by
      have g1 : us.toArray[i]? = some y := gy
      rw [show us.toArray[i]? = some u by simpa using hu] at g1
      exact (Option.some.inj g1).symm
    subst ey
    refine ⟨_, rfl, wpAny_letOwnedTupleGo_enum (s := { s with heap := h1, toks := tk + 1 }) own fun h2 e2 off => ?_⟩
    generalize hp : s.heap.objs.size = p at *
    have far : ∀ b, b ∈ [e, it] → b ≠ p := fun b m z => by
      rcases two m with y | y
      · rw [← y, z] at inE
        exact Nat.lt_irrefl _ inE
      · rw [← y, z] at inI
        exact Nat.lt_irrefl _ inI
    have out : ∀ {b : Addr}, b ∉ [e, it] → b ≠ e ∧ b ≠ it := fun {b} n => ⟨fun z => n (by rw [z]; exact List.mem_cons_self), fun z => n (by rw [z]; exact List.mem_cons_of_mem _ List.mem_cons_self)⟩
    have pair2 : h2.get? p = some { cls := .type "tuple", data := .seq #[.int i tk, y] } := (off.2 p (far e List.mem_cons_self).symm).trans pair
    have J : Inv X pins σ (upd H p (.tup [.int (i : Nat), x])) { s with heap := h2, toks := tk + 1 } :=
      I.turnedNew (ch := [e, it]) (fun b o n q => (off.2 b (out n).1).trans (same b o (out n).1 (out n).2 q)) young (Nat.le_of_eq hp) ⟨by show 2 ≤ sizeLine; decide, [.int i tk, y], .cons ⟨_, rfl⟩ (.cons ru .nil), ⟨_, pair2, rfl, _, rfl⟩⟩
    refine ⟨.ref p, _, J, rfl, ⟨p, x, rfl, I.hok.fresh (Nat.le_of_eq hp), rfl, fun ys hy => ?_⟩, ⟨⟨y, ?_⟩, ?_, st.n1, st.n2, st.n3⟩, fun b m => ?_⟩
    · rw [I.tuple_inj hy hs]
      exact hx
    · rw [show ((i + 1 : Nat) : Int) = (i : Int) + 1 from Int.natCast_add i 1]
      exact e2
    · exact it1.1.at fun o q => (off.2 it st.n1.symm).trans q
    · exact (upd_ne (far b m)).trans (young b m).1
  done := by
    rintro X rfl rfl rfl calm i pins s σ H E I young st ⟨xs, hs, hx⟩
    obtain ⟨old, he⟩ := st.ob
    obtain ⟨us, rel, isT, _⟩ := I.tuple hs
    have len : us.toArray.size = i := by
      have := rel.length
      simp
      omega
    have y1 := young it (List.mem_cons_of_mem _ List.mem_cons_self)
    refine wpAny_pyNext_enum_endD (Draws.tuple (prog := X.prog) (w := X.w) (A := X.A.in1) (I.ok.hd calm) it a st.n2 us.toArray) he (by rw [len]; exact ⟨st.ti, isT⟩) fun h1 eb => ⟨rfl, ?_⟩
    exact I.turned (t' := s.toks) (fun b o n q => eb b o n q) y1.1 y1.2.1 y1.2.2.2.1 y1.2.2.2.2.1 y1.2.2.2.2.2
  self := fun A i s Q E st h => by
    obtain ⟨old, he⟩ := st.ob
    exact wpAny_pyIter_enum he h
def iEnumT (K : PySem.W.Frag) (ta : TA) : TI := fun σ H R => ta σ H fun vs H1 => ∃ a xs, vs = [.ref a] ∧ SqT K H1 a xs ∧ R (IteT K a) H1
theorem pi_enumT {X : Cx} {K : PySem.W.Frag} {e : Expr} {ta : TA} {p pos tpos : Pos} {elts : List Expr} {kk : Nat} (hK : X.K = K) (hg : Gl X "enumerate") (hm : X.mg "enumerate" = none) (ha : PA X [e] ta) (hs : starEach [e] X.env = [(false, eval e X.env)] := by rfl) :
    PI X (.Tuple elts kk tpos) (.Call (.Name "enumerate" p) [e] [] pos) (iEnumT K ta) := by
  subst hK
  constructor
  intro pins s σ H R I wish
  refine Call_ (ld_blt I hg hm boot_enumerate (PyProof.Rows.callWith_type1 (thn (ha.run pos pins s σ H _ I wish) ?_) hs rfl))
  rintro us s1 ⟨vs, H1, I1, rel, a, xs, rfl, sq, q⟩
  cases rel with
  | cons r0 r1 =>
    cases r1
    cases r0
    obtain ⟨us, _, isT, _⟩ := I1.tuple sq
    have inA : a < s1.heap.objs.size := by
      obtain ⟨o, ho, _⟩ := id isT
      exact Heap.lt_size ho
    refine run_enumT (show s1.heap.IsTuple a us.toArray from isT) (wpAny_pyIter_enum (eHeap_ob s1.heap a) ?_)
    have J : Inv X pins σ H1 { s1 with heap := eHeap s1.heap a } := I1.kept (t' := s1.toks) fun b o z => eHeap_keep z
    refine ⟨s1.heap.objs.size + 1, [s1.heap.objs.size + 1, s1.heap.objs.size], _, _, H1, rfl, J, turn_enumT a _ _, ⟨⟨.none, eHeap_ob s1.heap a⟩, ⟨_, eHeap_it s1.heap a, rfl, rfl⟩, Nat.succ_ne_self _, Nat.ne_of_lt inA, Nat.ne_of_lt (Nat.lt_succ_of_lt inA)⟩, fun b m => ?_, q⟩
    have hb : s1.heap.objs.size ≤ b := by
      rcases two m with rfl | rfl
      · exact Nat.le_succ _
      · exact Nat.le_refl _
    exact I1.fpOk hb (I1.hok.fresh hb)
end PDI
namespace PDX
open PySem PySem.Spec L2 PyProof.Rows
section
variable {fs : List Addr} {P : Program} {w : World} {A B : Hp} {h0 h1 h2 G : Heap} {p : Addr} {o : HO}
/-- seen from a smaller heap, without the object at p -/
theorem un_from (u : Un fs [] (upd A p o) B h1 h2) (le : ∀ x v, h0.get? x = some v → h1.get? x = some v) (off : ∀ x v, h0.get? x = some v → x ≠ p) (hp : A p = none) : Un fs [] A B h0 h2 := by
  have same : ∀ {x : Addr}, x ≠ p → upd A p o x = A x := fun z => upd_ne z
  have told : ∀ {x : Addr} {v : HO}, A x = some v → x ≠ p := fun {x v} e z => by rw [z, hp] at e; cases e
  constructor
  · intro x v e n f q
    exact u.keep x v (le x v e) ((same (off x v e)).trans n) f q
  · intro x v e n f q
    exact u.slot x v (le x v e) ((same (off x v e)).trans n) f q
  · intro x v e n q
    exact u.free x v (le x v e) ((same (off x v e)).trans n) q
  · intro x v e q
    exact u.there x v (le x v e) q
  · intro x v e
    exact u.tups x v ((same (told e)).trans e)
  · intro x v y e
    exact u.frzs x v y ((same (told e)).trans e)
  · intro x v e
    exact u.tbls x v ((same (told e)).trans e)
/-- .. and from the heap behind it that lacks it too -/
theorem un_less (u : Un fs [] A B h0 h2) (eq : ∀ x, x ≠ p → G.get? x = h2.get? x) (off : ∀ x v, h0.get? x = some v → x ≠ p) (hp : A p = none) : Un fs [] A (del B p) h0 G := by
  have told : ∀ {x : Addr} {v : HO}, A x = some v → del B p x = B x := fun {x v} e => del_ne fun z => by rw [z, hp] at e; cases e
  constructor
  · intro x v e n f q
    exact (eq x (off x v e)).trans (u.keep x v e n f q)
  · intro x v e n f q
    obtain ⟨l, hl⟩ := u.slot x v e n f q
    exact ⟨l, (eq x (off x v e)).trans hl⟩
  · intro x v e n q
    exact (del_ne (off x v e)).trans (u.free x v e n q)
  · intro x v e q
    obtain ⟨y, hy⟩ := u.there x v e q
    exact ⟨y, (eq x (off x v e)).trans hy⟩
  · intro x v e
    exact (told e).trans (u.tups x v e)
  · intro x v y e
    exact (told e).trans (u.frzs x v y e)
  · intro x v e
    obtain ⟨l, hl⟩ := u.tbls x v e
    exact ⟨l, (told e).trans hl⟩
theorem hok_less {C : Addr} (ok : HOk P w B h2) (ep : B p = some (exo p C none)) (eq : ∀ x, x ≠ p → G.get? x = h2.get? x) : HOk P w (del B p) G := by
  have other : ∀ {x : Addr} {v : HO}, B x = some v → exo p C none ≠ v → x ≠ p := fun {x v} e d z => by
    rw [z, ep] at e
    exact d (Option.some.inj e)
  intro x v e
  by_cases z : x = p
  · subst z
    rw [del_same] at e
    cases e
  · rw [del_ne z] at e
    refine ObjOk.stay (ok x v e) ?_ ?_ ?_
    · rintro y v2 (rfl | hy) q
      · exact (eq _ z).trans q
      · exact (eq _ (other hy exo_own)).trans q
    · intro y hy
      exact (del_ne (other hy exo_own)).trans hy
    · intro y l hy
      exact (del_ne (other hy exo_tup)).trans hy
end
/-- C() -/
def tMk0 (C : Addr) (sp : Sp) : L2.St → Hp → XK → Prop := fun σ H Q => ∀ a, H a = none → sp [.ref a] (upd H a (exo a C none)) (fun v H2 => v = .non ∧ H2 a = some (exo a C none) ∧ Q (.ref C) none (del H2 a)) (fun _ _ _ => False)
section
variable {X : Cx} {pos p : Pos}
/-- what such an __init__ leaves -/
theorem bare_end {pins : List (Addr × Obj)} {σ : L2.St} {H H2 : Hp} {Q : XK} {s s2 : Shared} {hm : Heap} {a C : Addr} (T : OexC X.K C) (I : L2.Inv X pins σ H s) (ha : s.heap.objs.size ≤ a) (le : ∀ x v, s.heap.get? x = some v → hm.get? x = some v)
    (u : Un (frs X.stack) [] (upd H a (exo a C none)) H2 hm s2.heap) (ok : HOk X.prog X.w H2 s2.heap) (os : s2.os = s.os) (bare : AllBare s2.gens) (ea : H2 a = some (exo a C none)) (q : Q (.ref C) none (del H2 a)) : MkP X pins σ Q (.ref a) s2 := by
  have off : ∀ x v, s.heap.get? x = some v → x ≠ a := by
    rintro x v e rfl
    exact absurd (Heap.lt_size e) (Nat.not_lt.mpr ha)
  have na : H a = none := I.hok.fresh ha
  obtain ⟨t, ho⟩ := exo_at ok ea
  obtain ⟨G, same, gone⟩ := restrict s2.heap fun x => !decide (x = a)
  have eq : ∀ x, x ≠ a → G.get? x = s2.heap.get? x := fun x hx => same x (by simp [hx])
  have ga : G.get? a = none := gone a (by simp)
  have J : L2.Inv X pins σ (del H2 a) { s2 with heap := G } := I.call' (ch := []) os (un_less (un_from u le off na) eq off na) (hok_less ok ea eq) bare (by simp)
  refine ⟨a, _, _, { s2 with heap := G }, del H2 a, .ref C, none, rfl, J, fun x v e => ?_, ga, ho, ⟨rfl, rfl⟩, rfl, rfl, del_same, rfl, bare, raises_own T.exC T.tyC, q⟩
  have hx : x ≠ a := fun z => by rw [z, ga] at e; cases e
  exact (eq x hx).symm.trans e
theorem pmk_oe0 {CX : CXT} {x : Str} {C fI : Addr} {k : Nat} {fd : FuncData} {ps : List Str} {sp : Sp} (T : OexC X.K C) (iC : PySem.W.findIn X.K (.ref C) "__init__" = some (some (.ref fI))) (tI : PySem.W.typeIn X.K (.ref fI) = some (.type "function"))
    (F1 : FnOk X.prog X.w X.K X.mg X.base CX k fI fd ps sp) (hr : Room (k + 1) X.A) (hb : Binds X.K fd ps []) (hx : Passes CX X (fun _ _ _ => False)) (hg : Gl X x) (hm : X.mg x = some (.ref C))
    (hdb : (x == ("__debug__" : Str)) = false := by decide) : PMk X (.Call (.Name x p) [] [] pos) (tMk0 C sp) := by
  intro pins s σ H Q I wish
  obtain ⟨_, _, _, _, bm, _, _, _, _, _, _, _, _, _, _, hC, hv⟩ := T.cls
  refine wpAny_Call_Name_kw (ld_glob I hg hm (PySem.W.callWith_K0 I.kIn T.kC ?_) hdb)
  show wpAny _ _ (call (.ref C) []) _ _ _
  -- the two objects that a call lays: the arguments' tuple, the exception
  generalize ea : s.heap.objs.size + 1 = a
  have lo : s.heap.objs.size ≤ a := by omega
  obtain ⟨hm', ehm⟩ : ∃ z : Heap, z = (s.heap.push (PySem.W.kdv_tup [])).push (PySem.HandSPX.excO C s.heap.objs.size) := ⟨_, rfl⟩
  have le : ∀ y v, s.heap.get? y = some v → hm'.get? y = some v := fun y v e => by
    rw [ehm]
    exact Heap.get?_push_of_some _ (Heap.get?_push_of_some _ e)
  have at_ : hm'.get? a = some (PySem.HandSPX.excO C s.heap.objs.size) := by
    rw [ehm, ← ea]
    heap_get
  have W1 := wish a (I.hok.fresh lo)
  have I1 : L2.Inv X pins σ (upd H a (exo a C none)) { s with heap := hm' } := I.laid (t' := s.toks) (h' := hm') le lo (exo_ok at_)
  have n1 := F1.len _ _ _ _ W1
  have call := F1.run _ X.stack _ _ ⟨[Value.ref a], []⟩ [Value.ref a] _ _ (fun _ _ _ => False) (hr.make C [] []) (I1.env0.make C [] []) (hb _ [Value.ref a] I1.kIn (by simpa using n1)) (show Vals [V.ref a] [Value.ref a] from .cons rfl .nil) W1
  subst ehm
  subst ea
  refine wpAny_call (PySem.HandSPX.call_own F.excBase_ValueError (fun Y => PySem.HandSPX.refsVE_contains Y bm hv) (I.kIn _ _ hC) (PySem.W.looks_findIn I.kIn iC) (fun self => PySem.W.bind_fn I.kIn self tI) (Nat.zero_le _) (codeAny_mono call fun out s2 got => ?_))
  rcases out with er | fl
  · exact hx pins σ _ _ er s2 I1 got
  · cases fl <;> first
      | exact got.elim
      | (obtain ⟨v, H2, o2, b2, u2, k2, rv, ev, ee, wq⟩ := got
         subst ev
         exact ⟨rv, bare_end T I lo le u2 k2 o2 b2 ee wq⟩)
end
end PDX
namespace PD
open PySem PySem.Spec PyProof.Rows L2
open RZ (iZipA ItzT)
open PDX PDI
abbrev FX := List D → (D → Prop) → (XV → Prop) → Prop
def spX (K : PySem.W.Frag) (F : FX) : Sp := fun vs H Q E => ∃ (W : Wd) (M : Addr → Prop) (ds : List D) (P : D → Prop) (X : XV → Prop), W.K = K ∧ Wf W M H ∧ Reps W M H vs ds ∧ F ds P X ∧
  (∀ v d H', StOk W H' → Keep W H H' → Rep W M H' v d → P d → Q v H') ∧ ∀ cls dx x H', StOk W H' → Keep W H H' → XRep W M H' cls dx x → X x → E cls dx H'
theorem spX_len {K : PySem.W.Frag} {F : FX} {n : Nat} (hF : ∀ ds P X, F ds P X → ds.length = n) (vs : List V) (H : Hp) (Q : VK) (E : XK) (h : spX K F vs H Q E) : vs.length = n := by
  obtain ⟨W, M, ds, P, X, _, _, r, f, _⟩ := h
  rw [r.length]
  exact hF ds P X f
theorem body_ofX {K : PySem.W.Frag} {F : FX} {vs : List V} {H : Hp} {Q : VK} {E : XK} {N : List Str} {t : TS} (h : spX K F vs H Q E)
    (hb : ∀ W ds P X, W.K = K → F ds P X → SX W (fun cls d _ H => E cls d H) t (startD N.length ds) (fun _ => P .non) P (fun _ => False) (fun _ => False) (fun x _ => X x)) : t { nx := fun _ H' => Q .non H', rt := Q } (L2.start N vs) H := by
  obtain ⟨W, M, ds, P, X, e, w, r, f, q, qx⟩ := h
  exact hb W ds P X e f M H M _ H _ ⟨w, start_slots N r⟩ ⟨Keep.refl _, fun _ x => x, fun a x y => absurd x y⟩
    ⟨fun M' σ' δ' H' p' e' x => q .non .non H' p'.wf.g e'.k .non x, fun v d H' g k r' x => q v d H' g k r' x, fun _ _ _ _ _ _ x => x.elim, fun _ _ _ _ _ _ x => x.elim, fun M' σ' δ' H' cls d x p' e' rx hx => qx cls d x H' p'.wf.g e'.k (rx.anti e'.m) hx⟩
/-- a call of a def that may raise, where it does not -/
theorem passF {X : Cx} : Passes (L2.CX X.prog X.w) X (fun _ _ _ => False) := fun _ _ _ _ _ _ _ h => by
  obtain ⟨_, _, _, _, _, _, _, _, _, _, _, _, z⟩ := h
  exact z.elim
theorem ev_callX {W : Wd} {δ : DS} {F : FX} {ta : TA} {P : D → Prop} (h : EvA W ta δ fun ds => F ds P fun _ => False) : EvD W (tCall (spX W.K F) [] (fun _ _ _ => False) ta) δ P := fun M σ H p Q q =>
  h M σ H p _ fun vs ds H1 g1 k1 r1 h1 => ⟨W, M, ds, P, fun _ => False, rfl, p.wf.next g1 k1, by rw [List.append_nil]; exact r1, h1, fun v d H2 g2 k2 r2 h2 => q v d H2 g2 (k1.trans k2) r2 h2, fun _ _ _ _ _ _ _ z => z.elim⟩
section
variable {W : Wd} {Wx : WX} {X : XV → DS → Prop} {δ : DS} {N : DS → Prop} {R : D → Prop} {B C : DS → Prop} {ta : TA} {F : FX}
theorem XRep.keep {M : Addr → Prop} {H H' : Hp} {cls : Value} {d : Option Addr} {x : XV} (w : Wf W M H) (k : Keep W H H') (h : XRep W M H cls d x) : XRep W M H' cls d x := by
  obtain ⟨h1, h2⟩ := h
  refine ⟨h1, ?_⟩
  cases d with
  | none => exact h2
  | some dx =>
    obtain ⟨fs, h6, h3, h5, h4⟩ := h2
    refine ⟨fs, h6, k dx _ (fun e => ?_) h3, h5, h4.keep w k⟩
    obtain ⟨_, q⟩ := StOk.at w.g e
    rw [h3] at q
    cases q
/-- a call that may raise, as a statement -/
theorem callX_core {M0 M : Addr → Prop} {H0 H1 : Hp} {σ : L2.St} {vs : List V} {ds : List D} {E : Ends} {Q : VK} {P : D → Prop} (p : Pre W M δ σ H1) (e : Ent W M0 H0 M H1) (r : Reps W M H1 vs ds) (o : Outs W Wx M0 H0 N R B C X E) (hF : F ds P fun x => X x δ)
    (hQ : ∀ v d H2, StOk W H2 → Keep W H1 H2 → Rep W M H2 v d → P d → Q v H2) : spX W.K F vs H1 Q (WE Wx σ) :=
  ⟨W, M, ds, P, fun x => X x δ, rfl, p.wf, r, hF, hQ, fun cls dx x H2 g2 k2 r2 hx => o.xw M σ δ H2 cls dx x (p.next g2 k2) (e.next k2) r2 hx⟩
theorem sx_drop (h : EvA W ta δ fun ds => F ds (fun _ => N δ) fun x => X x δ) : SX W Wx (tDrop (tCallS (spX W.K F) (WE Wx) ta)) δ N R B C X := fun M0 H0 M σ H E p e o =>
  h M σ H p _ fun vs ds H1 g1 k1 r1 h1 => callX_core (p.next g1 k1) (e.next k1) r1 o h1 fun v d H2 g2 k2 r2 hN => o.nx M σ δ H2 ((p.next g1 k1).next g2 k2) ((e.next k1).next k2) hN
theorem sx_ret (h : EvA W ta δ fun ds => F ds R fun x => X x δ) : SX W Wx (tRet (tCallS (spX W.K F) (WE Wx) ta)) δ N R B C X := fun M0 H0 M σ H E p e o =>
  h M σ H p _ fun vs ds H1 g1 k1 r1 h1 => callX_core (p.next g1 k1) (e.next k1) r1 o h1 fun v d H2 g2 k2 r2 hR => o.rt v d H2 g2 ((e.k.trans k1).trans k2) (r2.anti e.m) hR
/-- what an __init__ that stores nothing keeps -/
def spI0 (K : PySem.W.Frag) : Sp := fun vs H Q _ => ∃ a C, vs = [.ref a] ∧ OexC K C ∧ H a = some (exo a C none) ∧ Q .non H
theorem del_upd {H : Hp} {a : Addr} {o : HO} (h : H a = none) : del (upd H a o) a = H := by
  funext b
  unfold del upd
  by_cases e : b = a
  · rw [if_pos e, e, h]
  · rw [if_neg e, if_neg e]
/-- raise C(), C without a field -/
theorem sx_raise0 {C' : Addr} (hC : OexC W.K C') (h : X (C', []) δ) : SX W Wx (fun _ σ H => tMk0 C' (spI0 W.K) σ H fun cls d H' => Wx cls d σ H') δ N R B C X := fun M0 H0 M σ H E p e o => by
  intro a ha
  refine ⟨a, C', rfl, hC, upd_same, rfl, upd_same, ?_⟩
  rw [del_upd ha]
  exact o.xw M σ δ H _ none (C', []) p e ⟨rfl, rfl⟩ h
/-- what an __init__ that stores its one argument keeps -/
def spI1 (K : PySem.W.Frag) (f : Str) : Sp := fun vs H Q _ => ∃ a C y, vs = [.ref a, y] ∧ OexC K C ∧ PySem.W.findIn K (.ref C) f = some none ∧ H a = some (exo a C none) ∧
  ∀ dx, H dx = none → dx ≠ a → Q .non (upd (upd H dx (exd dx [(f, y)])) a (exo a C (some dx)))
/-- raise C(e), C's one field f -/
theorem sx_raise1 {C' : Addr} {f : Str} {ta : TA} (hC : OexC W.K C') (hf : PySem.W.findIn W.K (.ref C') f = some none) (h : EvA W ta δ fun ds => ∃ d, ds = [d] ∧ X (C', [(f, d)]) δ) : SX W Wx (fun _ σ H => tMkO C' (spI1 W.K f) [] ta σ H fun cls d H' => Wx cls d σ H') δ N R B C X := fun M0 H0 M σ H E p e o =>
  h M σ H p _ fun vs ds H1 g1 k1 r1 h1 => by
    obtain ⟨d, rfl, hX⟩ := h1
    cases r1 with
    | @cons v vs d ds r1 r2 =>
      cases r2
      refine ⟨by show 1 ≤ 1000; decide, fun a ha => ⟨a, C', v, rfl, hC, hf, upd_same, fun dx hdx hne => ⟨rfl, dx, [(f, v)], upd_same, ?_, ?_, ?_⟩⟩⟩
      · rw [upd_ne hne, upd_same]
      · rw [upd_ne hne] at hdx
        exact hdx
      · have hd1 : H1 dx = none := by
          rw [upd_ne hne] at hdx
          exact hdx
        have eH : upd (del (upd (upd (upd H1 a (exo a C' none)) dx (exd dx [(f, v)])) a (exo a C' (some dx))) a) dx (.xd [(f, v)]) = upd H1 dx (.xd [(f, v)]) := by
          funext b
          by_cases e1 : b = dx
          · subst e1
            simp [del, upd]
          · by_cases e2 : b = a
            · subst e2
              simp [del, upd, e1, ha]
            · simp [del, upd, e1, e2]
        rw [eH]
        have kn : Keep W H1 (upd H1 dx (.xd [(f, v)])) := Keep.new hd1
        have gn : StOk W (upd H1 dx (.xd [(f, v)])) := g1.new hd1
        have p1 := p.next g1 k1
        exact o.xw M σ δ _ _ (some dx) (C', [(f, d)]) (p1.next gn kn) ((e.next k1).next kn) ⟨rfl, _, fun m => (by obtain ⟨o, ho⟩ := p1.wf.dom dx m; rw [hd1] at ho; cases ho), upd_same, rfl, .cons (r1.keep p1.wf kn) .nil⟩ hX
end
end PD
namespace PD
open PySem PySem.Spec PyProof.Rows L2
open RZ (iZipA ItzT)
open PDX PDI
def enumD (ds : List D) : List D := List.zipWith (fun (i : Nat) d => D.tup [.int i, d]) (List.range ds.length) ds
theorem enumD_length (ds : List D) : (enumD ds).length = ds.length := by
  unfold enumD
  rw [List.length_zipWith, List.length_range]
  omega
theorem enumD_get {ds : List D} {i : Nat} {d : D} (h : (enumD ds)[i]? = some d) : ∃ x, ds[i]? = some x ∧ d = .tup [.int i, x] := by
  have hl := (List.getElem?_eq_some_iff.mp h).1
  rw [enumD_length] at hl
  unfold enumD at h
  rw [List.getElem?_zipWith, List.getElem?_range hl, List.getElem?_eq_getElem hl] at h
  exact ⟨_, List.getElem?_eq_getElem hl, (Option.some.inj h).symm⟩
section
variable {W : Wd} {δ : DS} {ta : TA}
theorem src_enumT {M : Addr → Prop} {H1 : Hp} {a : Addr} {vs : List V} {ds : List D} (w : Wf W M H1) (hs : SqT W.K H1 a vs) (hr : Reps W M H1 vs ds) : Src W M (IteT W.K a) H1 (enumD ds) := fun M' hm hn i H2 k g => by
  have wg : Wg W M' H1 := ⟨w.g, fun b e => hm b (w.sm b e)⟩
  have wg2 : Wg W M' H2 := ⟨g, fun b e => hm b (w.sm b e)⟩
  have hs2 := sqT_keepM wg (k.mono hm) hs
  have hr2 : Reps W M' H2 vs ds := (hr.more hn).keepM wg (k.mono hm)
  refine ⟨fun hl => ⟨vs, hs2, by rw [hr2.length, hl, enumD_length]⟩, fun d hd => ?_⟩
  obtain ⟨x, hx, rfl⟩ := enumD_get hd
  obtain ⟨v, hv, rv⟩ := hr2.get hx
  refine ⟨⟨vs, v, hs2, hv⟩, fun z H3 yy => ?_⟩
  obtain ⟨T, x1, rfl, hT, rfl, f1⟩ := yy
  have e1 := f1 vs hs2
  rw [hv] at e1
  cases e1
  have kn : Keep W H2 (upd H2 T (.tup [.int (i : Nat), v])) := Keep.new hT
  exact ⟨g.new hT, kn, .tup (SqT.of upd_same) (.cons (.int _) (.cons (rv.keepG wg2 kn) .nil))⟩
theorem it_enumT {P : List D → Prop} (h : EvA W ta δ fun xs => ∃ ds, xs = [.tup ds] ∧ P (enumD ds)) : IterD W (iEnumT W.K ta) δ P := fun M σ H p R q => h M σ H p _ fun vs ds H1 g1 k1 r1 h1 => by
  obtain ⟨ds, rfl, hP⟩ := h1
  cases r1 with
  | cons r1 r2 =>
    cases r2
    cases r1 with
    | tup hs hr => exact ⟨_, _, rfl, hs, q _ H1 _ g1 k1 hP (src_enumT (p.wf.next g1 k1) hs hr)⟩
end
theorem lookup_D {W : Wd} {M : Addr → Prop} {H : Hp} {f : Str} : ∀ {fs : List (Str × V)} {ds : List D} {d : D}, Reps W M H (fs.map (·.2)) ds → ((fs.map (·.1)).zip ds).lookup f = some d → ∃ v, fs.lookup f = some v ∧ Rep W M H v d
  | [], ds, d, _, h => by simp at h
  | (g, v) :: fs, ds, d, r, h => by
    cases r with
    | @cons _ _ d0 ds0 r1 r2 =>
      rw [List.map_cons, List.zip_cons_cons, List.lookup_cons] at h
      rw [List.lookup_cons]
      cases hb : f == g with
      | true =>
        rw [hb] at h
        cases h
        exact ⟨v, rfl, r1⟩
      | false =>
        rw [hb] at h
        exact lookup_D r2 h
theorem ev_fld {W : Wd} {δ : DS} {te : TE} {f : Str} {P : D → Prop} (h : EvD W te δ fun x => ∃ C ns ds d, x = .ins C ns ds ∧ Cls W.K C ∧ NoAttr W.K C f ∧ (ns.zip ds).lookup f = some d ∧ P d) : EvD W (tFld W.K te f) δ P := fun M σ H p Q q =>
  h M σ H p _ fun v x H1 g1 k1 r1 h1 => by
    obtain ⟨C, ns, ds, d, rfl, hC, hn, hl, hP⟩ := h1
    cases r1 with
    | ins nM ha e r =>
      subst e
      obtain ⟨v, h2, h3⟩ := lookup_D r hl
      exact ⟨_, C, _, _, v, rfl, ha, hC, hn, h2, q v d H1 g1 k1 h3 hP⟩
theorem pe_fldK {X : Cx} {K : PySem.W.Frag} {e : Expr} {te : TE} {f : Str} {pos : Pos} (hK : X.K = K) (he : PE X e te) (hb : attributeBase e f X.env (eval e X.env) = eval e X.env) : PE X (.Attribute e f pos) (tFld K te f) := by
  subst hK
  exact pe_fld he hb
abbrev FI := Addr → List D → (List Str → List D → Prop) → (XV → Prop) → Prop
/-- what a class's __init__ keeps: the new object (at x, its dict at dx) gets its fields, the rest stands -/
def spInit (K : PySem.W.Frag) (F : FI) : Sp := fun vs H Q E => ∃ (W : Wd) (M : Addr → Prop) (x dx C : Addr) (ws : List V) (ds : List D) (P : List Str → List D → Prop) (X : XV → Prop), vs = .ref x :: ws ∧ W.K = K ∧ Wf W M H ∧ M x ∧ ¬ W.S x ∧
  H x = some (.ins C dx []) ∧ Reps W M H ws ds ∧ F C ds P X ∧
  (∀ H' fs es, StOk W H' → (∀ a o, a ≠ x → ¬ W.S a → H a = some o → H' a = some o) → H' x = some (.ins C dx fs) → Reps W M H' (fs.map (·.2)) es → P (fs.map (·.1)) es → Q .non H') ∧
  ∀ cls d y H', StOk W H' → (∀ a o, a ≠ x → ¬ W.S a → H a = some o → H' a = some o) → XRep W M H' cls d y → X y → E cls d H'
theorem spInit_len {K : PySem.W.Frag} {F : FI} {n : Nat} (hF : ∀ C ds P X, F C ds P X → ds.length + 1 = n) (vs : List V) (H : Hp) (Q : VK) (E : XK) (h : spInit K F vs H Q E) : vs.length = n := by
  obtain ⟨W, M, x, dx, C, ws, ds, P, X, rfl, _, _, _, _, _, r, f, _⟩ := h
  show ws.length + 1 = n
  rw [r.length]
  exact hF C ds P X f
theorem make_core {W : Wd} {F : FI} {M : Addr → Prop} {H1 : Hp} {vs : List V} {ds : List D} {C : Addr} {Q : VK} {E : XK} {P : D → Prop} {X : XV → Prop} (w : Wf W M H1) (r : Reps W M H1 vs ds) (hF : F C ds (fun ns es => P (.ins C ns es)) X)
    (q : ∀ v d H', StOk W H' → Keep W H1 H' → Rep W M H' v d → P d → Q v H') (qx : ∀ cls d y H', StOk W H' → Keep W H1 H' → XRep W M H' cls d y → X y → E cls d H') :
    ∀ x dx, H1 x = none → H1 dx = none → dx ≠ x → spInit W.K F (.ref x :: (vs ++ [])) (upd (upd H1 dx (.own x)) x (.ins C dx [])) (fun v H2 => v = .non ∧ Q (.ref x) H2) E := fun x dx hx hd hne => by
  have kn : Keep W H1 (upd (upd H1 dx (.own x)) x (.ins C dx [])) := (Keep.new hd).trans (Keep.new (by rw [upd_ne hne.symm]; exact hx))
  have gn : StOk W (upd (upd H1 dx (.own x)) x (.ins C dx [])) := (w.g.new hd).new (by rw [upd_ne hne.symm]; exact hx)
  have nM : ¬ M x := fun m => by
    obtain ⟨o, ho⟩ := w.dom x m
    rw [hx] at ho
    cases ho
  have ns : ¬ W.S x := fun e => nM (w.sm x e)
  have hm : ∀ a, M a → M a ∨ a = x := fun a m => .inl m
  have wn : Wf W (fun a => M a ∨ a = x) (upd (upd H1 dx (.own x)) x (.ins C dx [])) := ⟨gn, fun a e => .inl (w.sm a e), fun a m => by
    rcases m with m | m
    · exact (w.next gn kn).dom a m
    · subst m
      exact ⟨_, upd_same⟩⟩
  have rn : Reps W (fun a => M a ∨ a = x) (upd (upd H1 dx (.own x)) x (.ins C dx [])) vs ds := (r.more fun a m n => by
    rcases m with m | m
    · exact absurd m n
    · subst m
      exact hx).keepG ⟨w.g, fun a e => .inl (w.sm a e)⟩ kn
  refine ⟨W, fun a => M a ∨ a = x, x, dx, C, vs, ds, _, X, by rw [List.append_nil], rfl, wn, .inr rfl, ns, upd_same, rn, hF, fun H' fs es g' k' hx' re hP => ⟨rfl, ?_⟩, fun cls d y H' g' k' rx hX => qx cls d y H' g' (fun a o na ho => k' a o (ne_of_none ho hx) na (kn a o na ho)) (rx.anti hm) hX⟩
  have kk : Keep W H1 H' := fun a o na ho => k' a o (ne_of_none ho hx) na (kn a o na ho)
  exact q (.ref x) _ H' g' kk (.ins nM hx' rfl (re.anti hm)) hP
theorem ev_make {W : Wd} {δ : DS} {F : FI} {C : Addr} {ta : TA} {P : D → Prop} (h : EvA W ta δ fun ds => F C ds (fun ns es => P (.ins C ns es)) fun _ => False) : EvD W (tMake C (spInit W.K F) [] (fun _ _ _ => False) ta) δ P := fun M σ H p Q q =>
  h M σ H p _ fun vs ds H1 g1 k1 r1 h1 => make_core (p.wf.next g1 k1) r1 h1 (fun v d H2 g2 k2 r2 h2 => q v d H2 g2 (k1.trans k2) r2 h2) fun _ _ _ _ _ _ _ z => z.elim
/-- the last rows of an __init__: self.f = a; self.g = b -/
theorem init_body2 {K : PySem.W.Frag} {F : FI} {vs : List V} {H : Hp} {Q : VK} {E : XK} {N : List Str} {t1 t2 : TS} {f g : Str} {i j : Nat} (h : spInit K F vs H Q E) (hfg : f ≠ g)
    (hb : ∀ W C (x : Addr) ds P X, W.K = K → F C ds P X → Cls K C ∧ NoAttr K C f ∧ NoAttr K C g ∧ SX W (fun cls d _ H => E cls d H) (tSeq t1 t2) (startD N.length (.obj x :: ds)) (fun δ => ∃ y z, δ[0]? = some (some (.obj x)) ∧ δ[i]? = some (some y) ∧ δ[j]? = some (some z) ∧ P [f, g] [y, z]) (fun _ => False) (fun _ => False) (fun _ => False) (fun y _ => X y)) :
    tSeq t1 (tSeq t2 (tSeq (sFld K (tVar 0) (tVar i) f) (sFld K (tVar 0) (tVar j) g))) { nx := fun _ H' => Q .non H', rt := Q } (L2.start N vs) H := by
  obtain ⟨W, M, x, dx, C, ws, ds, P, X, rfl, e, w, mx, ns, hx, r, hF, q, qx⟩ := h
  obtain ⟨c1, c2, c3, hS⟩ := hb W C x ds P X e hF
  subst e
  have r0 : Reps W M H (.ref x :: ws) (.obj x :: ds) := .cons (.obj x) r
  refine hS M H M _ H { nx := tSeq (sFld W.K (tVar 0) (tVar i) f) (sFld W.K (tVar 0) (tVar j) g) { nx := fun _ H' => Q .non H', rt := Q }, rt := Q } ⟨w, start_slots N r0⟩ ⟨Keep.refl _, fun _ z => z, fun a z y => absurd z y⟩
    ⟨fun M' σ δ H' p' e' hN => ?_, fun _ _ _ _ _ _ z => z.elim, fun _ _ _ _ _ _ z => z.elim, fun _ _ _ _ _ _ z => z.elim, fun M' σ' δ' H' cls d y p' e' rx hX => qx cls d y H' p'.wf.g (fun a o _ ns ho => e'.k a o ns ho) (rx.anti e'.m) hX⟩
  obtain ⟨y, z, h0, hi, hj, hP⟩ := hN
  obtain ⟨v0, s0, q0⟩ := p'.sl.get 0 _ h0
  cases q0
  obtain ⟨v1, s1, q1⟩ := p'.sl.get i _ hi
  obtain ⟨v2, s2, q2⟩ := p'.sl.get j _ hj
  have hx' := e'.k x _ ns hx
  refine ⟨v1, s1, _, s0, x, C, dx, [], rfl, hx', c1, c2, by decide, ?_⟩
  refine ⟨v2, s2, _, s0, x, C, dx, [(f, v1)], rfl, upd_same, c1, c3, by show 1 < 1000; decide, ?_⟩
  have ep : putF g v2 [(f, v1)] = [(f, v1), (g, v2)] := by
    show (if f = g then _ else (f, v1) :: putF g v2 []) = _
    rw [if_neg hfg]
    rfl
  show Q .non (upd (upd H' x (.ins C dx (putF f v1 []))) x (.ins C dx (putF g v2 [(f, v1)])))
  rw [upd_upd, ep]
  have hM : M' x := e'.m x mx
  have isL : ∀ s, W.s = some s → s ≠ x := fun s hs e => ns (Wd.S_of hs e.symm)
  have gg : StOk W (upd H' x (.ins C dx [(f, v1), (g, v2)])) := fun s hs => by
    obtain ⟨n1, i1, c1, m1, a1, a2, a3, a4⟩ := p'.wf.g s hs
    refine ⟨n1, i1, c1, m1, by rw [upd_ne (isL s hs)]; exact a1, a2, ?_, a4⟩
    rw [upd_ne (ne_of a3 hx' (by intro z; cases z))]
    exact a3
  have up : ∀ {v : V} {d : D}, Rep W M' H' v d → Rep W M' (upd H' x (.ins C dx [(f, v1), (g, v2)])) v d := fun r => r.upd (rdT_ins hx') hM
  exact q _ [(f, v1), (g, v2)] [y, z] gg (fun a o na nsa ho => by rw [upd_ne na]; exact e'.k a o nsa ho) upd_same ((Reps.cons (up q1) (.cons (up q2) .nil)).anti e'.m) hP
/-- the last rows of an __init__ of three fields, the third of which comes of a call that may raise -/
theorem init_body3 {K : PySem.W.Frag} {F : FI} {G : FX} {vs : List V} {H : Hp} {Q : VK} {E : XK} {N : List Str} {t1 t2 : TS} {ta : TA} {f g k : Str} {i j : Nat} (h : spInit K F vs H Q E) (hfg : f ≠ g) (hfk : f ≠ k) (hgk : g ≠ k)
    (hb : ∀ W C (x : Addr) ds P X, W.K = K → F C ds P X → Cls K C ∧ NoAttr K C f ∧ NoAttr K C g ∧ NoAttr K C k ∧ SX W (fun cls d _ H => E cls d H) (tSeq t1 t2) (startD N.length (.obj x :: ds)) (fun δ => ∃ y z, δ[0]? = some (some (.obj x)) ∧ δ[i]? = some (some y) ∧ δ[j]? = some (some z) ∧
      EvA W ta δ fun ds => G ds (fun d => P [f, g, k] [y, z, d]) X) (fun _ => False) (fun _ => False) (fun _ => False) (fun x _ => X x)) :
    tSeq t1 (tSeq t2 (tSeq (sFld K (tVar 0) (tVar i) f) (tSeq (sFld K (tVar 0) (tVar j) g) (sFld K (tVar 0) (tCallS (spX K G) (WE fun cls d _ H => E cls d H) ta) k)))) { nx := fun _ H' => Q .non H', rt := Q } (L2.start N vs) H := by
  obtain ⟨W, M, x, dx, C, ws, ds, P, X, rfl, e, w, mx, ns, hx, r, hF, q, qx⟩ := h
  obtain ⟨c1, c2, c3, c4, hS⟩ := hb W C x ds P X e hF
  subst e
  have r0 : Reps W M H (.ref x :: ws) (.obj x :: ds) := .cons (.obj x) r
  refine hS M H M _ H { nx := tSeq (sFld W.K (tVar 0) (tVar i) f) (tSeq (sFld W.K (tVar 0) (tVar j) g) (sFld W.K (tVar 0) (tCallS (spX W.K G) (WE fun cls d _ H => E cls d H) ta) k)) { nx := fun _ H' => Q .non H', rt := Q }, rt := Q } ⟨w, start_slots N r0⟩ ⟨Keep.refl _, fun _ z => z, fun a z y => absurd z y⟩
    ⟨fun M' σ δ H' p' e' hN => ?_, fun _ _ _ _ _ _ z => z.elim, fun _ _ _ _ _ _ z => z.elim, fun _ _ _ _ _ _ z => z.elim, fun M' σ' δ' H' cls d y p' e' rx hX => qx cls d y H' p'.wf.g (fun a o _ ns ho => e'.k a o ns ho) (rx.anti e'.m) hX⟩
  obtain ⟨y, z, h0, hi, hj, hE⟩ := hN
  obtain ⟨v0, s0, q0⟩ := p'.sl.get 0 _ h0
  cases q0
  obtain ⟨v1, s1, q1⟩ := p'.sl.get i _ hi
  obtain ⟨v2, s2, q2⟩ := p'.sl.get j _ hj
  have hx' := e'.k x _ ns hx
  refine ⟨v1, s1, _, s0, x, C, dx, [], rfl, hx', c1, c2, by decide, ?_⟩
  refine ⟨v2, s2, _, s0, x, C, dx, [(f, v1)], rfl, upd_same, c1, c3, by show 1 < 1000; decide, ?_⟩
  have ep : putF g v2 [(f, v1)] = [(f, v1), (g, v2)] := by
    show (if f = g then _ else (f, v1) :: putF g v2 []) = _
    rw [if_neg hfg]
    rfl
  show tCallS (spX W.K G) (WE fun cls d _ H => E cls d H) ta σ (upd (upd H' x (.ins C dx (putF f v1 []))) x (.ins C dx (putF g v2 [(f, v1)]))) _
  rw [upd_upd, ep]
  have hM : M' x := e'.m x mx
  have isL : ∀ s, W.s = some s → s ≠ x := fun s hs e => ns (Wd.S_of hs e.symm)
  have stay : ∀ {fs : List (Str × V)} {Hq : Hp} {gs : List (Str × V)}, StOk W Hq → Hq x = some (.ins C dx gs) → StOk W (upd Hq x (.ins C dx fs)) := fun {fs Hq gs} go hq s hs => by
    obtain ⟨n1, i1, c1, m1, a1, a2, a3, a4⟩ := go s hs
    refine ⟨n1, i1, c1, m1, by rw [upd_ne (isL s hs)]; exact a1, a2, ?_, a4⟩
    rw [upd_ne (ne_of a3 hq (by intro z; cases z))]
    exact a3
  have up : ∀ {fs : List (Str × V)} {Hq : Hp} {gs : List (Str × V)} {v : V} {d : D}, Hq x = some (.ins C dx gs) → Rep W M' Hq v d → Rep W M' (upd Hq x (.ins C dx fs)) v d := fun hq r => r.upd (rdT_ins hq) hM
  have hat : upd H' x (.ins C dx [(f, v1), (g, v2)]) x = some (.ins C dx [(f, v1), (g, v2)]) := upd_same
  have p2 : Pre W M' δ σ (upd H' x (.ins C dx [(f, v1), (g, v2)])) := ⟨⟨stay p'.wf.g hx', p'.wf.sm, fun a ha => by
    by_cases e : a = x
    · exact ⟨_, by rw [e]; exact hat⟩
    · obtain ⟨o, ho⟩ := p'.wf.dom a ha
      exact ⟨o, by rw [upd_ne e]; exact ho⟩⟩, p'.sl.len, fun jj d hd => by
    obtain ⟨v, a1, a2⟩ := p'.sl.get jj d hd
    exact ⟨v, a1, up hx' a2⟩⟩
  refine hE M' σ _ p2 _ fun vs3 ds3 H3 g3 k3 r3 h3 => ⟨W, M', ds3, _, X, rfl, ⟨g3, p2.wf.sm, fun a ha => (p2.wf.next g3 k3).dom a ha⟩, r3, h3, fun v3 d3 H4 g4 k4 r4 hP => ?_, fun cls d y H4 g4 k4 rx hX => ?_⟩
  · have k34 := k3.trans k4
    have hx4 : H4 x = some (.ins C dx [(f, v1), (g, v2)]) := k34 x _ ns hat
    refine ⟨_, s0, x, C, dx, _, rfl, hx4, c1, c4, by show 2 < 1000; decide, ?_⟩
    have ek : putF k v3 [(f, v1), (g, v2)] = [(f, v1), (g, v2), (k, v3)] := by
      show (if f = k then _ else (f, v1) :: (if g = k then _ else (g, v2) :: putF k v3 [])) = _
      rw [if_neg hfk, if_neg hgk]
      rfl
    rw [ek]
    have w4 := (p2.wf.next g3 k3).next g4 k4
    have old : ∀ {v : V} {d : D}, Rep W M' H' v d → Rep W M' (upd H4 x (.ins C dx [(f, v1), (g, v2), (k, v3)])) v d := fun r => up hx4 (((up hx' r).keep p2.wf k3).keep (p2.wf.next g3 k3) k4)
    refine q _ [(f, v1), (g, v2), (k, v3)] [y, z, d3] (stay g4 hx4) (fun a o na nsa ho => ?_) upd_same ((Reps.cons (old q1) (.cons (old q2) (.cons (up hx4 r4) .nil))).anti e'.m) hP
    rw [upd_ne na]
    exact k34 a o nsa (by rw [upd_ne na]; exact e'.k a o nsa ho)
  · refine qx cls d y H4 g4 (fun a o na nsa ho => ?_) (rx.anti e'.m) hX
    exact (k3.trans k4) a o nsa (by rw [upd_ne na]; exact e'.k a o nsa ho)
end PD
namespace PD
open PySem PySem.Spec PyProof.Rows L2
open RZ (iZipA ItzT)
open PDX PDI
def clsBody : Stmt → List Stmt
  | .ClassDef _ _ _ b _ _ _ _ _ _ _ => b
  | _ => []
def mthS (s : Stmt) (j : Nat) : Stmt := (clsBody s).getD j (.Pass ⟨0, 0, 0, 0⟩)
/-- a class's own def -/
structure DefM (K : PySem.W.Frag) (x qual : Str) (st : Stmt) (ps : List Str) where
  f : Addr
  d : FuncData
  F : L2.Fun K x qual st f d
  b : Binds K d ps []
/-- an exception class that stands under its name -/
structure ExcT (K : PySem.W.Frag) (mg : Str → Option Value) (x : Str) (fI : Addr) where
  C : Addr
  g : mg x = some (.ref C)
  o : OexC K C
  i : PySem.W.findIn K (.ref C) "__init__" = some (some (.ref fI))
/-- an instance's class: what isinstance asks -/
structure OCls (K : PySem.W.Frag) (C : Addr) : Prop where
  cl : Cls K C
  ha : PySem.W.findIn K (.ref C) "__class__" = some (some (.builtin "object.__class__"))
  hn : PySem.W.specialIn K (.builtin "object.__class__") "__get__" = some (some (.builtin "getset_descriptor.__get__"))
  ht : PySem.W.takesIn K (.builtin "object.__class__") = some true
  hm : PySem.W.mroIn K C (.type "object") = some true
  kI : PySem.W.kitOne K (.ref C) (.type "int") = some false
  kB : PySem.W.kitOne K (.ref C) (.type "bool") = some false
  kT : PySem.W.kitOne K (.ref C) (.type "tuple") = some false
  kS : PySem.W.kitOne K (.ref C) (.type "str") = some false
/-- a class whose objects are made -/
structure ClsT (K : PySem.W.Frag) (mg : Str → Option Value) (x : Str) (fI : Addr) where
  C : Addr
  g : mg x = some (.ref C)
  m : Mk K C fI
  o : OCls K C
mutual
def Jd (K : PySem.W.Frag) : D → Prop
  | .ins C _ _ => OCls K C
  | .tup xs => JdA K xs
  | .lst xs => JdA K xs
  | .ty _ => False
  | .st => False
  | .obj _ => False
  | .exc _ _ _ _ => False
  | .xob _ _ _ => False
  | _ => True
def JdA (K : PySem.W.Frag) : List D → Prop
  | [] => True
  | x :: xs => Jd K x ∧ JdA K xs
end
def Jd1 (K : PySem.W.Frag) : D → Prop
  | .ins C _ _ => OCls K C
  | x => x.tyName.isSome = true
theorem jd_ty {K : PySem.W.Frag} {x : D} (h : Jd K x) : Jd1 K x := by
  cases x <;> first | rfl | (simp only [Jd] at h; done) | (simp only [Jd] at h; exact h)
theorem jd_mem {K : PySem.W.Frag} {xs : List D} (h : JdA K xs) {x : D} (hx : x ∈ xs) : Jd K x := by
  induction xs with
  | nil => cases hx
  | cons y ys ih =>
    simp only [JdA] at h
    rcases List.mem_cons.mp hx with rfl | hx
    · exact h.1
    · exact ih h.2 hx
theorem jdA_of {K : PySem.W.Frag} {xs : List D} (h : ∀ x ∈ xs, Jd K x) : JdA K xs := by
  induction xs with
  | nil => simp only [JdA]
  | cons y ys ih =>
    simp only [JdA]
    exact ⟨h y List.mem_cons_self, ih fun x hx => h x (List.mem_cons_of_mem _ hx)⟩
section
variable {W : Wd} {δ : DS} {P : D → Prop} {ta : TA}
theorem tyxO {M : Addr → Prop} {H : Hp} {v : V} {C : Addr} {ns : List Str} {ds : List D} (o : OCls W.K C) (r : Rep W M H v (.ins C ns ds)) : TyX W.K H v (.ref C) := by
  cases r with
  | ins n e _ _ => exact .base (.ins e o.cl o.ha o.hn o.ht o.hm)
theorem rc_isiO {C : Addr} {ns : List Str} {ds : List D} {n : String} (o : OCls W.K C) (hk : PySem.W.kitOne W.K (.ref C) (.type n) = some false) (h : P (.bl false)) : RCD W (rIsi W.K) [.ins C ns ds, .ty n] P := fun M H vs w r Q q => by
  cases r with
  | cons r1 r2 =>
    cases r2 with
    | cons r2 r3 =>
      cases r3
      cases r2
      exact ⟨_, _, _, _, false, rfl, .ty n, tyxO o r1, hk, q _ _ H w.g (Keep.refl H) (.bl false) h⟩
theorem rc_isiIJ {x : D} (hx : Jd1 W.K x) (h : P (.bl (x.isInt || x.isBl))) : RCD W (rIsi W.K) [x, .ty "int"] P := by
  cases x with
  | ins C ns ds => exact rc_isiO hx hx.kI h
  | _ => exact rc_isiI hx h
theorem rc_isiBJ {x : D} (hx : Jd1 W.K x) (h : P (.bl x.isBl)) : RCD W (rIsi W.K) [x, .ty "bool"] P := by
  cases x with
  | ins C ns ds => exact rc_isiO hx hx.kB h
  | _ => exact rc_isiB hx h
theorem rc_isiTJ {x : D} (hx : Jd1 W.K x) (h : P (.bl x.isTup)) : RCD W (rIsi W.K) [x, .ty "tuple"] P := by
  cases x with
  | ins C ns ds => exact rc_isiO hx hx.kT h
  | _ => exact rc_isiT hx h
theorem newU {M : Addr → Prop} {H : Hp} {p : Addr} {kvs : List (Key × V)} (w : Wf W M H) (hp : H p = none) : StOk W (upd H p (.dK kvs)) ∧ Keep W H (upd H p (.dK kvs)) ∧ Rep W M (upd H p (.dK kvs)) (.ref p) .dct :=
  ⟨w.g.new hp, Keep.new hp, .dct (fun m => by
    obtain ⟨o, ho⟩ := w.dom p m
    rw [hp] at ho
    cases ho) upd_same⟩
theorem ev_dnew (h : P .dct) : EvD W tDNewK δ P := fun M σ H p Q q a ha => by
  obtain ⟨x1, x2, x3⟩ := newU (kvs := []) p.wf ha
  exact q _ _ _ x1 x2 x3 h
theorem ev_disp1 {i j : Int} (h : P .dct) : EvD W (tDisp [(tC (.int i), tC (.int j))]) δ P := fun M σ H p Q q a ha => by
  refine ⟨upd_same, [(.inl i, .int j)], rfl, by show 1 ≤ 15; decide, ?_⟩
  rw [upd_upd]
  obtain ⟨x1, x2, x3⟩ := newU (kvs := mergeK [] [(.inl i, .int j)]) p.wf ha
  exact q _ _ _ x1 x2 x3 h
theorem reps_flat {M : Addr → Prop} {H : Hp} {vs : List V} {ds : List D} (r : Reps W M H vs ds) : ∀ n : Nat, Reps W M H (List.replicate n vs).flatten (List.replicate n ds).flatten
  | 0 => .nil
  | n + 1 => by
    rw [List.replicate_succ, List.replicate_succ, List.flatten_cons, List.flatten_cons]
    exact r.append (reps_flat r n)
/-- a part of a slice -/
def EvO (W : Wd) (to : TO) (δ : DS) (P : Option Int → Prop) : Prop := ∀ (M : Addr → Prop) (σ : L2.St) (H : Hp), Pre W M δ σ H → ∀ Q : Option Int → Hp → Prop, (∀ o H', StOk W H' → Keep W H H' → P o → Q o H') → to σ H Q
theorem eo_none {P : Option Int → Prop} (h : P none) : EvO W tNoPart δ P := fun M σ H p Q q => q none H p.wf.g (Keep.refl H) h
theorem eo_some {P : Option Int → Prop} {te : TE} (h : EvD W te δ fun d => ∃ i, d = .int i ∧ P (some i)) : EvO W (tPart te) δ P := fun M σ H p Q q => h M σ H p _ fun v d H1 g1 k1 r1 h1 => by
  obtain ⟨i, rfl, hP⟩ := h1
  cases r1
  exact ⟨i, rfl, q (some i) H1 g1 k1 hP⟩
def cutD (xs : List D) (lo hi : Option Int) : List D := (xs.drop (HT.sIx xs.length 0 lo)).take (HT.sIx xs.length xs.length hi - HT.sIx xs.length 0 lo)
theorem Reps.drop {M : Addr → Prop} {H : Hp} : ∀ {vs : List V} {ds : List D} (n : Nat), Reps W M H vs ds → Reps W M H (vs.drop n) (ds.drop n)
  | _, _, 0, r => by rw [List.drop_zero, List.drop_zero]; exact r
  | _, _, _ + 1, .nil => .nil
  | _, _, n + 1, .cons _ t => Reps.drop n t
theorem Reps.take {M : Addr → Prop} {H : Hp} : ∀ {vs : List V} {ds : List D} (n : Nat), Reps W M H vs ds → Reps W M H (vs.take n) (ds.take n)
  | _, _, 0, _ => by rw [List.take_zero, List.take_zero]; exact .nil
  | _, _, _ + 1, .nil => .nil
  | _, _, n + 1, .cons r t => .cons r (Reps.take n t)
theorem cut_all {xs : List D} {lo hi : Option Int} (h : HT.sIx xs.length 0 lo = 0 ∧ HT.sIx xs.length xs.length hi = xs.length) : cutD xs lo hi = xs := by
  unfold cutD
  rw [h.1, h.2, List.drop_zero, Nat.sub_zero, List.take_length]
theorem ev_sl {te : TE} {tl th : TO} (h : EvD W te δ fun x => ∃ xs, x = .tup xs ∧ EvO W tl δ fun lo => EvO W th δ fun hi => P (.tup (cutD xs lo hi))) : EvD W (tSl (rSlA W.K) te tl th) δ P := fun M σ H p Q q =>
  h M σ H p _ fun v x H1 g1 k1 r1 h1 => by
    obtain ⟨xs, rfl, h1⟩ := h1
    have p1 := p.next g1 k1
    refine h1 M σ H1 p1 _ fun lo H2 g2 k2 h2 => ?_
    have p2 := p1.next g2 k2
    refine h2 M σ H2 p2 _ fun hi H3 g3 k3 h3 => ?_
    have p3 := p2.next g3 k3
    have r3 := (r1.keep p1.wf k2).keep p2.wf k3
    cases r3 with
    | @tup a vs ds hs hr =>
      have hl := hr.length
      refine ⟨a, vs, rfl, hs, fun z => ?_, fun z l hn => ?_⟩
      · refine q _ _ H3 g3 ((k1.trans k2).trans k3) (.tup hs hr) ?_
        rw [hl] at z
        have e : P (.tup (cutD xs lo hi)) := h3
        rw [cut_all z] at e
        exact e
      · have rr : Reps W M H3 (cutV vs lo hi) (cutD xs lo hi) := by
          unfold cutV cutD
          rw [hl]
          exact (hr.drop _).take _
        obtain ⟨x1, x2, x3⟩ := newT p3.wf rr hn
        exact q _ _ _ x1 (((k1.trans k2).trans k3).trans x2) x3 h3
end
end PD
namespace PD
open PySem PySem.Spec PyProof.Rows L2
open PDX PDI
def clB (K : PySem.W.Frag) (C fI : Addr) : Bool := PySem.W.plainGet K C Str.empty && PySem.W.hasDictIn K C && PySem.W.plainOver K C && decide (PySem.W.findIn K (.ref C) "__setattr__" = some (some (.builtin "object.__setattr__"))) &&
  decide (PySem.W.findIn K (.ref C) "__class__" = some (some (.builtin "object.__class__"))) && decide (PySem.W.specialIn K (.builtin "object.__class__") "__get__" = some (some (.builtin "getset_descriptor.__get__"))) &&
  decide (PySem.W.takesIn K (.builtin "object.__class__") = some true) && decide (PySem.W.mroIn K C (.type "object") = some true) && decide (PySem.W.kitOne K (.ref C) (.type "int") = some false) &&
  decide (PySem.W.kitOne K (.ref C) (.type "bool") = some false) && decide (PySem.W.kitOne K (.ref C) (.type "tuple") = some false) && decide (PySem.W.kitOne K (.ref C) (.type "str") = some false) && PySem.W.makesIn K C && decide (PySem.W.findIn K (.ref C) "__init__" = some (some (.ref fI))) && PySem.W.isFn K (.ref fI) && PySem.W.keepIn K (.ref C)
theorem cls_of {K : PySem.W.Frag} {C fI : Addr} (q : clB K C fI = true) : OCls K C ∧ Mk K C fI := by
  unfold clB at q
  simp only [Bool.and_eq_true, decide_eq_true_eq] at q
  obtain ⟨⟨⟨⟨⟨⟨⟨⟨⟨⟨⟨⟨⟨⟨⟨h1, h2⟩, h3⟩, h4⟩, h5⟩, h6⟩, h7⟩, h8⟩, h9⟩, h10⟩, h11⟩, h11'⟩, h12⟩, h13⟩, h14⟩, h15⟩ := q
  exact ⟨⟨⟨h1, h2, h3, h4⟩, h5, h6, h7, h8, h9, h10, h11, h11'⟩, h12, h13, h14, h15⟩
def D.isNon : D → Bool
  | .non => true
  | _ => false
section
variable {W : Wd} {P : D → Prop}
theorem rep_non {M : Addr → Prop} {H : Hp} {v : V} {x : D} (r : Rep W M H v x) : decide (v = V.non) = x.isNon := by
  cases r <;> first | rfl | exact decide_eq_false (by intro z; cases z)
theorem rd_isN {x : D} (h : P (.bl x.isNon)) : RD W (fun x y H Q => y = V.non ∧ Q (V.bl (decide (x = V.non))) H) x .non P := fun M H v u w r1 r2 Q q => by
  cases r2
  refine ⟨rfl, ?_⟩
  rw [rep_non r1]
  exact q _ _ H w.g (Keep.refl H) (.bl _) h
theorem rd_notN {x : D} (h : P (.bl (!x.isNon))) : RD W (fun x y H Q => y = V.non ∧ Q (V.bl (!decide (x = V.non))) H) x .non P := fun M H v u w r1 r2 Q q => by
  cases r2
  refine ⟨rfl, ?_⟩
  rw [rep_non r1]
  exact q _ _ H w.g (Keep.refl H) (.bl _) h
end
/-- what the __init__ of the first class of the errors keeps -/
theorem init0_body {K : PySem.W.Frag} {vs : List V} {H : Hp} {Q : VK} {E : XK} {N : List Str} (h : spI0 K vs H Q E) : tDrop (tVeI K (tCons (tVar 0) tNil)) { nx := fun _ H' => Q .non H', rt := Q } (L2.start N vs) H := by
  obtain ⟨a, C, rfl, hC, e, q⟩ := h
  refine ⟨.ref a, rfl, a, C, [], rfl, Nat.zero_le _, hC, e, q⟩
end PD
namespace PDT
open PySem PySem.Spec L2 PyProof.Rows
end PDT
namespace PD
open PySem PySem.Spec PyProof.Rows L2
open PDX PDI PDT
end PD
namespace PD
open PySem PySem.Spec PyProof.Rows L2
mutual
def D.lays : D → Nat → Bool
  | .non, _ | .bl _, _ | .int _, _ => true
  | .tup xs, n + 1 => D.laysA xs n
  | .lst xs, n + 1 => D.laysA xs n
  | _, _ => false
def D.laysA : List D → Nat → Bool
  | [], _ => true
  | x :: xs, n => x.lays n && D.laysA xs n
end
mutual
theorem lays_ok : ∀ {x : D} {n : Nat}, x.lays n = true → x.plain = true ∧ x.py.canLay0 = true ∧ x.py.depth ≤ n
  | .non, _, _ => by simp [D.plain, D.py, PyData.canLay0, PyData.depth]
  | .bl _, _, _ => by simp [D.plain, D.py, PyData.canLay0, PyData.depth]
  | .int _, _, _ => by simp [D.plain, D.py, PyData.canLay0, PyData.depth]
  | .tup xs, n + 1, h => by
    have e := laysA_ok (xs := xs) (n := n) (by simpa [D.lays] using h)
    simp [D.plain, D.py, PyData.canLay0, PyData.depth, e.1, e.2.1, e.2.2]
  | .lst xs, n + 1, h => by
    have e := laysA_ok (xs := xs) (n := n) (by simpa [D.lays] using h)
    simp [D.plain, D.py, PyData.canLay0, PyData.depth, e.1, e.2.1, e.2.2]
  | .tup _, 0, h => by simp [D.lays] at h
  | .lst _, 0, h => by simp [D.lays] at h
  | .str _, _, h => by simp [D.lays] at h
  | .ty _, _, h => by simp [D.lays] at h
  | .st, _, h => by simp [D.lays] at h
  | .obj _, _, h => by simp [D.lays] at h
  | .dct, _, h => by simp [D.lays] at h
  | .ins _ _ _, _, h => by simp [D.lays] at h
  | .exc _ _ _ _, _, h => by simp [D.lays] at h
  | .xob _ _ _, _, h => by simp [D.lays] at h
  | .dic _ _, _, h => by simp [D.lays] at h
theorem laysA_ok : ∀ {xs : List D} {n : Nat}, D.laysA xs n = true → D.plains xs = true ∧ PyData.canLayAll0 (D.pys xs) = true ∧ PyData.depthAll (D.pys xs) ≤ n
  | [], n, _ => by simp [D.plains, D.pys, PyData.canLayAll0, PyData.depthAll]
  | x :: xs, n, h => by
    simp only [D.laysA, Bool.and_eq_true] at h
    have a := lays_ok h.1
    have b := laysA_ok h.2
    simp [D.plains, D.pys, PyData.canLayAll0, PyData.depthAll, a.1, a.2.1, b.1, b.2.1]
    exact Nat.max_le.mpr ⟨a.2.2, b.2.2⟩
end
theorem lays_fine {x : D} {n : Nat} (h : x.lays n = true) (hn : n ≤ 64) : x.fine = true := by
  obtain ⟨a, b, c⟩ := lays_ok h
  show (x.plain && SeqAt.shaped x.py) = true
  rw [a, Bool.true_and]
  show (x.py.canLay0 && decide (x.py.depth ≤ 64)) = true
  rw [b, Bool.true_and]
  exact decide_eq_true (by omega)
theorem laysA_of {xs : List D} {n : Nat} (h : ∀ x ∈ xs, x.lays n = true) : D.laysA xs n = true := by
  induction xs with
  | nil => simp only [D.laysA]
  | cons y ys ih =>
    simp only [D.laysA, Bool.and_eq_true]
    exact ⟨h y List.mem_cons_self, ih fun x hx => h x (List.mem_cons_of_mem _ hx)⟩
theorem lays_tup {xs : List D} {n : Nat} (h : ∀ x ∈ xs, x.lays n = true) : (D.tup xs).lays (n + 1) = true := by simp only [D.lays]; exact laysA_of h
mutual
def D.slim : D → Bool
  | .int i => decide (i.natAbs < 10000000000000000000000000000000000000000)
  | .tup xs | .lst xs => decide (xs.length ≤ 1000) && D.slims xs
  | _ => true
def D.slims : List D → Bool
  | [] => true
  | x :: xs => D.slim x && D.slims xs
end
mutual
theorem slim_small : ∀ {x : D}, D.slim x = true → x.small = true
  | .int i, h => by
    simp only [D.slim] at h
    simp only [D.small]
    exact decide_eq_true (lt_pow (m := 134) (sz40 (of_decide_eq_true h)) (by decide))
  | .tup xs, h => by
    simp only [D.slim, Bool.and_eq_true] at h
    simp only [D.small]
    exact slims_small h.2
  | .lst xs, h => by
    simp only [D.slim, Bool.and_eq_true] at h
    simp only [D.small]
    exact slims_small h.2
  | .non, _ | .bl _, _ | .str _, _ | .ty _, _ | .st, _ | .obj _, _ | .dct, _ | .ins _ _ _, _ | .exc _ _ _ _, _ | .xob _ _ _, _ | .dic _ _, _ => by simp only [D.small]
theorem slims_small : ∀ {xs : List D}, D.slims xs = true → D.smalls xs = true
  | [], _ => by simp only [D.smalls]
  | x :: xs, h => by
    simp only [D.slims, Bool.and_eq_true] at h
    simp only [D.smalls, Bool.and_eq_true]
    exact ⟨slim_small h.1, slims_small h.2⟩
end
theorem slims_of {xs : List D} (h : ∀ x ∈ xs, x.slim = true) : D.slims xs = true := by
  induction xs with
  | nil => simp only [D.slims]
  | cons y ys ih =>
    simp only [D.slims, Bool.and_eq_true]
    exact ⟨h y List.mem_cons_self, ih fun x hx => h x (List.mem_cons_of_mem _ hx)⟩
/-- what may be passed here: judged and slim -/
structure Gd (K : PySem.W.Frag) (x : D) : Prop where
  j : Jd K x
  s : x.slim = true
theorem Gd.small {K : PySem.W.Frag} {x : D} (h : Gd K x) : x.small = true := slim_small h.s
theorem Gd.ty {K : PySem.W.Frag} {x : D} (h : Gd K x) : Jd1 K x := jd_ty h.j
theorem Gd.tup {K : PySem.W.Frag} {xs : List D} (h : ∀ x ∈ xs, Gd K x) (hl : xs.length ≤ 1000) : Gd K (.tup xs) := ⟨by
    simp only [Jd]
    exact jdA_of fun x hx => (h x hx).j, by
    simp only [D.slim, Bool.and_eq_true]
    exact ⟨decide_eq_true hl, slims_of fun x hx => (h x hx).s⟩⟩
theorem Gd.lst {K : PySem.W.Frag} {xs : List D} (h : ∀ x ∈ xs, Gd K x) (hl : xs.length ≤ 1000) : Gd K (.lst xs) := ⟨by
    simp only [Jd]
    exact jdA_of fun x hx => (h x hx).j, by
    simp only [D.slim, Bool.and_eq_true]
    exact ⟨decide_eq_true hl, slims_of fun x hx => (h x hx).s⟩⟩
theorem Gd.len {K : PySem.W.Frag} {xs : List D} (h : Gd K (.tup xs)) : xs.length ≤ 1000 := by
  have := h.s
  simp only [D.slim, Bool.and_eq_true, decide_eq_true_eq] at this
  exact this.1
theorem Gd.lenD {K : PySem.W.Frag} {x : D} (h : Gd K x) : x.len ≤ 1000 := by
  cases x with
  | tup xs =>
    have := h.len
    show (xs.length : Int) ≤ 1000
    omega
  | _ => exact (by decide : (-1 : Int) ≤ 1000)
theorem Gd.int (K : PySem.W.Frag) {i : Int} (h : i.natAbs < 10000000000000000000000000000000000000000) : Gd K (.int i) := ⟨by simp only [Jd], by simp only [D.slim]; exact decide_eq_true h⟩
theorem Gd.non (K : PySem.W.Frag) : Gd K .non := ⟨by simp only [Jd], by simp only [D.slim]⟩
theorem Gd.fr (K : PySem.W.Frag) {p : Fr} (h1 : p.1.natAbs < 10000000000000000000000000000000000000000) (h2 : p.2.natAbs < 10000000000000000000000000000000000000000) : Gd K (fr p) := Gd.tup (fun x hx => by
  simp only [List.mem_cons, List.not_mem_nil, or_false] at hx
  rcases hx with rfl | rfl
  · exact .int K h1
  · exact .int K h2) (by show 2 ≤ 1000; decide)
theorem find_some {p : D → Bool} {xs : List D} {i : Nat} {d : D} (h : ∀ j, j < i → ∀ e, xs[j]? = some e → p e = false) (hd : xs[i]? = some d) (hp : p d = true) : xs.findIdx? p = some i := by
  have hi := (List.getElem?_eq_some_iff.mp hd).1
  rw [List.findIdx?_eq_some_iff_getElem]
  refine ⟨hi, ?_, fun j hj => ?_⟩
  · rw [List.getElem?_eq_getElem hi] at hd
    cases hd
    exact hp
  · rw [h j hj _ (List.getElem?_eq_getElem (by omega))]
    exact Bool.false_ne_true
theorem find_none {p : D → Bool} {xs : List D} (h : ∀ (j : Nat) (e : D), xs[j]? = some e → p e = false) : xs.findIdx? p = none := by
  rw [List.findIdx?_eq_none_iff]
  intro x hx
  obtain ⟨j, hj, rfl⟩ := List.mem_iff_getElem.mp hx
  exact h j _ (List.getElem?_eq_getElem hj)
def topD : D → Int
  | .tup (.int i :: _) => i
  | _ => 0
def botD : D → Int
  | .tup (_ :: .int i :: _) => i
  | _ => 0
def isPr : D → Bool
  | .tup [_, _] => true
  | _ => false
def items : D → List D
  | .tup xs => xs
  | _ => []
def hasLen : D → Bool
  | .tup xs => decide (1 ≤ xs.length) && decide (xs.length ≤ 10)
  | _ => false
def exOk (e : D) : Bool := decide (-6 ≤ topD e) && decide (topD e ≤ 6) && decide (botD e ≤ 4)
def isCl (n : Int) (x : D) : Bool := x.isNon || (isUn n x && (items x).all exOk)
def badRow (xs : List D) (e : D) : Bool := !hasLen e || decide (e.len ≠ D.len (xs.headD .non))
def badIn (n : Int) (e : D) : Bool := (items e).any fun c => !isCl n c
def wrongC (n : Int) (xs : List D) : D := match xs.findIdx? (badIn n) with
  | none => .non
  | some i => match (items (xs.getD i .non)).findIdx? (fun c => !isCl n c) with
    | none => .non
    | some j => .tup [.int i, .int j]
def wrongR (n : Int) (xs : List D) : D := match xs.findIdx? (badRow xs) with
  | some i => .tup [.int i]
  | none => wrongC n xs
def wrongD (b x : D) : D := if b.isInt && decide (1 ≤ b.toI) && decide (b.toI ≤ 3) then (if hasLen x then wrongR b.toI (items x) else .str "rows") else .str "bases"
theorem wrongD_in {n : Int} {x : D} (h1 : 1 ≤ n) (h3 : n ≤ 3) : wrongD (.int n) x = if hasLen x then wrongR n (items x) else .str "rows" := by
  unfold wrongD
  rw [if_pos]
  · rfl
  · show (true && decide (1 ≤ n) && decide (n ≤ 3)) = true
    rw [decide_eq_true h1, decide_eq_true h3]
    rfl
theorem wrongD_out {b x : D} (h : ¬ (b.isInt = true ∧ 1 ≤ b.toI ∧ b.toI ≤ 3)) : wrongD b x = .str "bases" := by
  unfold wrongD
  rw [if_neg]
  intro z
  simp only [Bool.and_eq_true, decide_eq_true_eq] at z
  exact h ⟨z.1.1, z.1.2, z.2⟩
theorem badRow_tup {xs cs ds : List D} (h : hasLen (.tup cs) = true) (e : xs.headD .non = .tup ds) : badRow xs (.tup cs) = !decide ((cs.length : Int) = ds.length) := by
  unfold badRow
  rw [h, e]
  show (!true || decide (¬ ((cs.length : Int) = ds.length))) = _
  by_cases hh : (cs.length : Int) = ds.length
  · rw [decide_eq_true hh, decide_eq_false (fun z => z hh)]
    rfl
  · rw [decide_eq_false hh, decide_eq_true hh]
    rfl
theorem fr_of {x : D} (h : isFr x = true) : ∃ p : Fr, x = fr p ∧ IsF p := by
  unfold isFr at h
  split at h
  · rename_i a b
    simp only [Bool.and_eq_true] at h
    obtain ⟨⟨⟨h1, h2⟩, h3⟩, h4⟩ := h
    obtain ⟨i, rfl⟩ := isInt_of h1
    obtain ⟨j, rfl⟩ := isInt_of h2
    exact ⟨(i, j), rfl, of_decide_eq_true h3, of_decide_eq_true h4⟩
  · cases h
theorem frs_all {xs : List D} (h : xs.all isFr = true) : ∃ u : List Fr, xs = u.map fr ∧ ∀ p ∈ u, IsF p := by
  induction xs with
  | nil => exact ⟨[], rfl, fun p hp => by cases hp⟩
  | cons x xs ih =>
    rw [List.all_cons, Bool.and_eq_true] at h
    obtain ⟨p, rfl, hp⟩ := fr_of h.1
    obtain ⟨u, rfl, hu⟩ := ih h.2
    refine ⟨p :: u, rfl, fun q hq => ?_⟩
    rcases List.mem_cons.mp hq with rfl | hq
    · exact hp
    · exact hu q hq
theorem isUn_of {n : Int} {x : D} (h : isUn n x = true) : ∃ u : List Fr, x = un u ∧ (u.length : Int) = n ∧ ∀ p ∈ u, IsF p := by
  cases x with
  | tup xs =>
    simp only [isUn, Bool.and_eq_true] at h
    obtain ⟨u, rfl, hu⟩ := frs_all h.2
    have := of_decide_eq_true h.1
    rw [List.length_map] at this
    exact ⟨u, rfl, this, hu⟩
  | _ => cases h
theorem is_un {n : Int} {x : D} (h1 : 1 ≤ n) (h3 : n ≤ 3) : (isAny x && decide (x.len = n)) = isUn n x := by
  cases x with
  | tup xs =>
    show ((decide (1 ≤ xs.length) && decide (xs.length ≤ 3) && xs.all isFr) && decide ((xs.length : Int) = n)) = (decide ((xs.length : Int) = n) && xs.all isFr)
    by_cases hn : (xs.length : Int) = n
    · rw [decide_eq_true hn, decide_eq_true (show 1 ≤ xs.length by omega), decide_eq_true (show xs.length ≤ 3 by omega)]
      cases xs.all isFr <;> rfl
    · rw [decide_eq_false hn]
      cases (decide (1 ≤ xs.length) && decide (xs.length ≤ 3) && xs.all isFr) <;> rfl
  | _ => rfl
theorem tup_of {x : D} (h : x.isTup = true) : ∃ xs, x = .tup xs := by
  cases x <;> first | exact ⟨_, rfl⟩ | cases h
theorem hasLen_of {x : D} (h : hasLen x = true) : ∃ xs, x = .tup xs ∧ 1 ≤ xs.length ∧ xs.length ≤ 10 := by
  cases x with
  | tup xs =>
    simp only [hasLen, Bool.and_eq_true, decide_eq_true_eq] at h
    exact ⟨xs, rfl, h.1, h.2⟩
  | _ => cases h
/-- a grid that is right: its rows are of units and noughts -/
structure GridOk (n : Int) (xs : List D) : Prop where
  n1 : 1 ≤ n
  n3 : n ≤ 3
  l1 : 1 ≤ xs.length
  l10 : xs.length ≤ 10
  rows : ∃ m : Nat, 1 ≤ m ∧ m ≤ 10 ∧ ∀ e ∈ xs, ∃ cs, e = .tup cs ∧ cs.length = m ∧ ∀ c ∈ cs, isCl n c = true
theorem cl_lays {n : Int} {c : D} (h : isCl n c = true) : c.lays 2 = true := by
  unfold isCl at h
  rw [Bool.or_eq_true] at h
  rcases h with h | h
  · cases c <;> first | rfl | cases h
  · rw [Bool.and_eq_true] at h
    obtain ⟨u, rfl, _, _⟩ := isUn_of h.1
    refine lays_tup fun x hx => ?_
    obtain ⟨p, _, rfl⟩ := List.mem_map.mp hx
    rfl
theorem GridOk.lays {n : Int} {xs : List D} (g : GridOk n xs) : (D.tup xs).lays 4 = true := by
  obtain ⟨m, _, _, h⟩ := g.rows
  refine lays_tup fun e he => ?_
  obtain ⟨cs, rfl, _, hc⟩ := h e he
  exact lays_tup fun c hc' => cl_lays (hc c hc')
end PD
namespace PD
open PySem PySem.Spec PyProof.Rows L2
theorem cutD_hi (xs : List D) (i : Nat) : cutD xs (some (i : Int)) none = xs.drop i := by
  unfold cutD
  rw [HT.sIx_none, HT.sIx_nat]
  by_cases h : i ≤ xs.length
  · rw [Nat.min_eq_left h]
    exact List.take_of_length_le (by rw [List.length_drop]; omega)
  · rw [Nat.min_eq_right (by omega), List.drop_of_length_le (Nat.le_refl _), List.drop_of_length_le (by omega), List.take_nil]
theorem cl_un {n : Int} {u : List Fr} (h1 : (u.length : Int) = n) (h : ∀ p ∈ u, IsF p ∧ p.1.natAbs ≤ 6 ∧ p.2 ≤ 4) : isCl n (un u) = true := by
  unfold isCl
  rw [isUn_un h1 fun p hp => (h p hp).1, Bool.true_and, Bool.or_eq_true]
  right
  show (u.map fr).all exOk = true
  rw [List.all_map, List.all_eq_true]
  intro p hp
  have := h p hp
  show (decide (-6 ≤ p.1) && decide (p.1 ≤ 6) && decide (p.2 ≤ 4)) = true
  rw [decide_eq_true (show -6 ≤ p.1 by omega), decide_eq_true (show p.1 ≤ 6 by omega), decide_eq_true this.2.2]
  rfl
theorem cl_of {n : Int} {c : D} (h : isCl n c = true) : c = .non ∨ ∃ u : List Fr, c = un u ∧ (u.length : Int) = n ∧ ∀ p ∈ u, IsF p ∧ p.1.natAbs ≤ 6 ∧ p.2 ≤ 4 := by
  unfold isCl at h
  rw [Bool.or_eq_true, Bool.and_eq_true] at h
  rcases h with h | ⟨h, h2⟩
  · left
    cases c <;> first | rfl | cases h
  · right
    obtain ⟨u, rfl, hl, hf⟩ := isUn_of h
    refine ⟨u, rfl, hl, fun p hp => ⟨hf p hp, ?_⟩⟩
    have := List.all_eq_true.mp h2 (fr p) (List.mem_map.mpr ⟨p, hp, rfl⟩)
    have e : exOk (fr p) = (decide (-6 ≤ p.1) && decide (p.1 ≤ 6) && decide (p.2 ≤ 4)) := rfl
    rw [e] at this
    simp only [Bool.and_eq_true, decide_eq_true_eq] at this
    omega
theorem cl_gd {K : PySem.W.Frag} {n : Int} {c : D} (hn : n ≤ 3) (h : isCl n c = true) : Gd K c := by
  rcases cl_of h with rfl | ⟨u, rfl, hl, hu⟩
  · exact .non K
  · refine Gd.tup (fun x hx => ?_) (by rw [List.length_map]; omega)
    obtain ⟨p, hp, rfl⟩ := List.mem_map.mp hx
    have := hu p hp
    have := this.1.1
    exact .fr K (by omega) (by omega)
end PD
namespace PD
open PySem PySem.Spec PyProof.Rows L2
theorem bad_row0 {xs : List D} {i : Nat} {d : D} (h : ∀ j, j < i → ∀ e, xs[j]? = some e → badRow xs e = false) (hd : xs[i]? = some d) (hl : hasLen d = true) : ∃ r0 : D, xs[0]? = some r0 ∧ hasLen r0 = true ∧ xs.headD .non = r0 := by
  cases xs with
  | nil => simp at hd
  | cons y ys =>
    refine ⟨y, rfl, ?_, rfl⟩
    by_cases hi : i = 0
    · subst hi
      cases hd
      exact hl
    · have := h 0 (by omega) y rfl
      unfold badRow at this
      simp only [Bool.or_eq_false_iff, Bool.not_eq_false'] at this
      exact this.1
end PD
namespace PD
open PySem PySem.Spec PyProof.Rows L2
/-- a word of a test's answer, ahead of what goes on -/
theorem et_mid {W : Wd} {δ : DS} {t : TT} {P : Bool → Prop} (Mid : Bool → Prop) (h : EvT W t δ Mid) (k : ∀ b, Mid b → P b) : EvT W t δ P := fun M σ H p Q q => h M σ H p Q fun b H' g kk m => q b H' g kk (k b m)
theorem ev_mid {W : Wd} {δ : DS} {t : TE} {P : D → Prop} (Mid : D → Prop) (h : EvD W t δ Mid) (k : ∀ d, Mid d → P d) : EvD W t δ P := fun M σ H p Q q => h M σ H p Q fun v d H' g kk r m => q v d H' g kk r (k d m)
end PD
namespace PD
open PySem PySem.Spec PyProof.Rows L2
open PDX PDI PDT
abbrev Om := List (Addr × List D)
def Own (W : Wd) (M0 M : Addr → Prop) (H : Hp) (ω : Om) : Prop := ∀ a ds, (a, ds) ∈ ω → M a ∧ ¬ M0 a ∧ ¬ W.S a ∧ (∀ s, W.s = some s → W.b ≠ a) ∧ ∃ vs, H a = some (.lst vs) ∧ Reps W M H vs ds
/-- from where a loop began: its own lists may have changed -/
structure EntM (W : Wd) (M1 : Addr → Prop) (H1 : Hp) (M : Addr → Prop) (H : Hp) : Prop where
  k : KeepM W M1 H1 H
  m : ∀ a, M1 a → M a
  new : ∀ a, M a → ¬ M1 a → H1 a = none
/-- from the entry, and from the loop -/
structure In2 (W : Wd) (M0 : Addr → Prop) (H0 : Hp) (M1 : Addr → Prop) (H1 : Hp) (M : Addr → Prop) (H : Hp) : Prop where
  e : Ent W M0 H0 M H
  l : EntM W M1 H1 M H
structure OutsO (W : Wd) (Wx : WX) (M0 : Addr → Prop) (H0 : Hp) (M1 : Addr → Prop) (H1 : Hp) (N : Om → DS → Prop) (R : D → Prop) (B C : Om → DS → Prop) (X : XV → DS → Prop) (E : Ends) : Prop where
  nx : ∀ M σ ω δ H, Pre W M δ σ H → Own W M0 M H ω → In2 W M0 H0 M1 H1 M H → N ω δ → E.nx σ H
  rt : ∀ v d H, StOk W H → Keep W H0 H → Rep W M0 H v d → R d → E.rt v H
  bk : ∀ M σ ω δ H, Pre W M δ σ H → Own W M0 M H ω → In2 W M0 H0 M1 H1 M H → B ω δ → E.bk σ H
  ct : ∀ M σ ω δ H, Pre W M δ σ H → Own W M0 M H ω → In2 W M0 H0 M1 H1 M H → C ω δ → E.ct σ H
  xw : ∀ M σ δ H cls d x, Pre W M δ σ H → Ent W M0 H0 M H → XRep W M H cls d x → X x δ → Wx cls d σ H
def SO (W : Wd) (Wx : WX) (ts : TS) (ω : Om) (δ : DS) (N : Om → DS → Prop) (R : D → Prop) (B C : Om → DS → Prop) (X : XV → DS → Prop) : Prop :=
  ∀ (M0 : Addr → Prop) (H0 : Hp) (M1 : Addr → Prop) (H1 : Hp) (M : Addr → Prop) (σ : L2.St) (H : Hp) (E : Ends), (∀ a, M0 a → ∃ o, H0 a = some o) → Pre W M δ σ H → Own W M0 M H ω → In2 W M0 H0 M1 H1 M H → OutsO W Wx M0 H0 M1 H1 N R B C X E → ts E σ H
section
variable {W : Wd} {Wx : WX} {X : XV → DS → Prop} {ω : Om} {δ : DS} {N : Om → DS → Prop} {R : D → Prop} {B C : Om → DS → Prop} {te tl : TE} {t : TT} {ts tu : TS} {ta : TA} {g : TG}
theorem Ent.refl (M : Addr → Prop) (H : Hp) : Ent W M H M H := ⟨Keep.refl _, fun _ x => x, fun _ x y => absurd x y⟩
theorem Ent.trans {M0 M M2 : Addr → Prop} {H0 H H2 : Hp} (wf : Wf W M H) (e : Ent W M0 H0 M H) (x : Ent W M H M2 H2) : Ent W M0 H0 M2 H2 := ⟨e.k.trans x.k, fun a ha => x.m a (e.m a ha), fun a ha hn => by
  by_cases hM : M a
  · exact e.new a hM hn
  · have h1 := x.new a ha hM
    cases h0 : H0 a with
    | none => rfl
    | some oo =>
      rw [e.k a oo (fun z => hM (wf.sm a z)) h0] at h1
      cases h1⟩
theorem EntM.refl (M : Addr → Prop) (H : Hp) : EntM W M H M H := ⟨fun _ _ _ _ h => h, fun _ x => x, fun _ x y => absurd x y⟩
theorem EntM.trans {M0 M M2 : Addr → Prop} {H0 H H2 : Hp} (e : EntM W M0 H0 M H) (x : EntM W M H M2 H2) (wf : Wf W M H) : EntM W M0 H0 M2 H2 := ⟨fun a o n l h => x.k a o n (fun ma => by
    by_cases m0 : M0 a
    · exact l m0
    · rw [e.new a ma m0] at h
      cases h) (e.k a o n l h), fun a ha => x.m a (e.m a ha), fun a ha hn => by
  by_cases hM : M a
  · exact e.new a hM hn
  · have h1 := x.new a ha hM
    cases h0 : H0 a with
    | none => rfl
    | some oo =>
      rw [e.k a oo (fun z => hM (wf.sm a z)) (fun z => absurd z hn) h0] at h1
      cases h1⟩
theorem Ent.toM {M M2 : Addr → Prop} {H H2 : Hp} (x : Ent W M H M2 H2) : EntM W M H M2 H2 := ⟨x.k.toM, x.m, x.new⟩
theorem In2.trans {M0 M1 M M2 : Addr → Prop} {H0 H1 H H2 : Hp} (e : In2 W M0 H0 M1 H1 M H) (wf : Wf W M H) (x : Ent W M H M2 H2) : In2 W M0 H0 M1 H1 M2 H2 := ⟨e.e.trans wf x, e.l.trans x.toM wf⟩
theorem In2.next {M0 M1 M : Addr → Prop} {H0 H1 H H2 : Hp} (e : In2 W M0 H0 M1 H1 M H) (wf : Wf W M H) (k : Keep W H H2) : In2 W M0 H0 M1 H1 M H2 := e.trans wf ⟨k, fun _ x => x, fun _ x y => absurd x y⟩
theorem Own.move {M0 M M' : Addr → Prop} {H H' : Hp} (wf : Wf W M H) (wf' : Wf W M' H') (o : Own W M0 M H ω) (e : Ent W M H M' H') : Own W M0 M' H' ω := fun a ds m => by
  obtain ⟨h1, h2, h3, hb, vs, h4, h5⟩ := o a ds m
  exact ⟨e.m a h1, h2, h3, hb, vs, e.k a _ h3 h4, (h5.more e.new).keepG ⟨wf.g, fun a z => e.m a (wf.sm a z)⟩ e.k⟩
theorem Own.keep {M0 M : Addr → Prop} {H H' : Hp} (wf : Wf W M H) (o : Own W M0 M H ω) (k : Keep W H H') : Own W M0 M H' ω := fun a ds m => by
  obtain ⟨h1, h2, h3, hb, vs, h4, h5⟩ := o a ds m
  exact ⟨h1, h2, h3, hb, vs, k a _ h3 h4, h5.keep wf k⟩
/-- a statement that changes none of these lists -/
theorem so_lift (h : SX W Wx ts δ (N ω) R (B ω) (C ω) X) : SO W Wx ts ω δ N R B C X := fun M0 H0 M1 L1 M σ H E d0 p ow e o =>
  h M H M σ H E p (Ent.refl M H) ⟨fun M' σ' δ' H' p' e' x => o.nx M' σ' ω δ' H' p' (ow.move p.wf p'.wf e') (e.trans p.wf e') x, fun v d H' g k r x => o.rt v d H' g (e.e.k.trans k) (r.anti e.e.m) x,
    fun M' σ' δ' H' p' e' x => o.bk M' σ' ω δ' H' p' (ow.move p.wf p'.wf e') (e.trans p.wf e') x, fun M' σ' δ' H' p' e' x => o.ct M' σ' ω δ' H' p' (ow.move p.wf p'.wf e') (e.trans p.wf e') x,
    fun M' σ' δ' H' cls d x p' e' rx hx => o.xw M' σ' δ' H' cls d x p' (e.e.trans p.wf e') rx hx⟩
theorem so_seq (h : SO W Wx ts ω δ (fun ω' δ' => SO W Wx tu ω' δ' N R B C X) R B C X) : SO W Wx (tSeq ts tu) ω δ N R B C X := fun M0 H0 M1 L1 M σ H E d0 p ow e o =>
  h M0 H0 M1 L1 M σ H { E with nx := tu E } d0 p ow e ⟨fun M' σ' ω' δ' H' p' ow' e' hN => hN M0 H0 M1 L1 M' σ' H' E d0 p' ow' e' o, o.rt, o.bk, o.ct, o.xw⟩
theorem so_mono {N' : Om → DS → Prop} (h : SO W Wx ts ω δ N R B C X) (hN : ∀ ω δ, N ω δ → N' ω δ) : SO W Wx ts ω δ N' R B C X := fun M0 H0 M1 L1 M σ H E d0 p ow e o =>
  h M0 H0 M1 L1 M σ H E d0 p ow e ⟨fun M' σ' ω' δ' H' p' ow' e' x => o.nx M' σ' ω' δ' H' p' ow' e' (hN _ _ x), o.rt, o.bk, o.ct, o.xw⟩
theorem so_cut (Mid : Om → DS → Prop) (h : SO W Wx ts ω δ Mid R B C X) (k : ∀ ω' δ', Mid ω' δ' → SO W Wx tu ω' δ' N R B C X) : SO W Wx (tSeq ts tu) ω δ N R B C X := so_seq (so_mono h k)
theorem so_next (h : N ω δ) : SO W Wx tNext ω δ N R B C X := fun M0 H0 M1 L1 M σ H E d0 p ow e o => o.nx M σ ω δ H p ow e h
theorem so_if (h : EvT W t δ fun b => (b = true → SO W Wx ts ω δ N R B C X) ∧ (b = false → SO W Wx tu ω δ N R B C X)) : SO W Wx (tIfS t ts tu) ω δ N R B C X := fun M0 H0 M1 L1 M σ H E d0 p ow e o =>
  h M σ H p _ fun b H1 g1 k1 h1 => by
    cases b with
    | true =>
      rw [if_pos rfl]
      exact h1.1 rfl M0 H0 M1 L1 M σ H1 E d0 (p.next g1 k1) (ow.keep p.wf k1) (e.next p.wf k1) o
    | false =>
      rw [if_neg Bool.false_ne_true]
      exact h1.2 rfl M0 H0 M1 L1 M σ H1 E d0 (p.next g1 k1) (ow.keep p.wf k1) (e.next p.wf k1) o
theorem so_asg {i : Nat} (h : EvD W te δ fun d => N ω (δ.set i (some d))) : SO W Wx (tAsg te (gName i)) ω δ N R B C X := so_lift (sd_asg h)
/-- a new list of one's own -/
theorem so_new {i : Nat} (h : EvA W ta δ fun ds => ds.length ≤ 100000 ∧ ∀ p, (∀ x ∈ ω, x.1 ≠ p) → N ((p, ds) :: ω) (δ.set i (some (.obj p)))) : SO W Wx (tAsg (tLst ta) (gName i)) ω δ N R B C X := fun M0 H0 M1 L1 M σ H E d0 p ow e o =>
  h M σ H p _ fun vs ds H1 g1 k1 r1 ⟨hl, hP⟩ => ⟨len_ok (by rw [r1.length]; exact hl), fun a ha => by
    have p1 := p.next g1 k1
    have k2 : Keep W H1 (upd H1 a (.lst vs)) := Keep.new ha
    have g2 : StOk W (upd H1 a (.lst vs)) := g1.new ha
    have ns : ¬ W.S a := fun z => by
      obtain ⟨_, q⟩ := StOk.at g1 z
      rw [ha] at q
      cases q
    have off0 : H0 a = none := by
      cases h0 : H0 a with
      | none => rfl
      | some oo =>
        rw [(e.e.k.trans k1) a oo ns h0] at ha
        cases ha
    have n0 : ¬ M0 a := fun z => by
      obtain ⟨oo, ho⟩ := d0 a z
      rw [off0] at ho
      cases ho
    let M' : Addr → Prop := fun b => M b ∨ b = a
    have e2 : Ent W M H1 M' (upd H1 a (.lst vs)) := ⟨k2, fun _ x => .inl x, fun b x y => by
      rcases x with x | x
      · exact absurd x y
      · rw [x]; exact ha⟩
    have wf' : Wf W M' (upd H1 a (.lst vs)) := ⟨g2, fun b z => .inl (p1.wf.sm b z), fun b x => by
      rcases x with x | x
      · exact (p1.wf.next g2 k2).dom b x
      · rw [x]; exact ⟨_, upd_same⟩⟩
    have wg' : Wg W M' H1 := ⟨g1, fun b z => .inl (p1.wf.sm b z)⟩
    have sl : Slots W M' (upd H1 a (.lst vs)) σ δ := ⟨p1.sl.len, fun j d hd => by
      obtain ⟨v, a1, a2⟩ := p1.sl.get j d hd
      exact ⟨v, a1, (a2.more e2.new).keepG wg' k2⟩⟩
    refine o.nx M' _ ((a, ds) :: ω) _ _ ⟨wf', sl.set i (.obj a)⟩ (fun b es m => ?_) ((e.next p.wf k1).trans p1.wf e2) (hP a fun x hx z => ?_)
    · rcases List.mem_cons.mp m with m | m
      · cases m
        exact ⟨.inr rfl, n0, ns, fun s hs z => (by
          obtain ⟨_, _, _, _, _, _, q, _⟩ := g1 s hs
          rw [z, ha] at q
          cases q), vs, upd_same, (r1.more e2.new).keepG wg' k2⟩
      · exact (ow.keep p.wf k1).move p1.wf wf' e2 b es m
    · obtain ⟨_, _, _, _, vs', q, _⟩ := (ow.keep p.wf k1) x.1 x.2 hx
      rw [z, ha] at q
      cases q⟩
/-- an item's data, as a list holds them -/
def putO (ω : Om) (a : Addr) (f : List D → List D) : Om := ω.map fun x => if x.1 = a then (x.1, f x.2) else x
theorem mem_putO {a b : Addr} {f : List D → List D} {es : List D} (h : (b, es) ∈ putO ω a f) : ∃ ds, (b, ds) ∈ ω ∧ es = if b = a then f ds else ds := by
  obtain ⟨⟨c, ds⟩, h1, h2⟩ := List.mem_map.mp h
  by_cases hc : c = a
  · simp only [hc, if_pos] at h2
    cases h2
    rw [hc] at h1
    exact ⟨ds, h1, by rw [if_pos rfl]⟩
  · simp only [hc, if_false] at h2
    cases h2
    exact ⟨_, h1, by rw [if_neg hc]⟩
theorem Reps.setR {W : Wd} {M : Addr → Prop} {H : Hp} : ∀ {vs : List V} {ds : List D} (j : Nat) {v : V} {d : D}, Reps W M H vs ds → Rep W M H v d → Reps W M H (vs.set j v) (ds.set j d)
  | _, _, _, _, _, .nil, _ => .nil
  | _, _, 0, _, _, .cons _ t, r => .cons r t
  | _, _, j + 1, _, _, .cons x t, r => .cons x (t.setR j r)
/-- a list of one's own is changed -/
theorem own_upd {M0 M1 M : Addr → Prop} {H0 L1 H : Hp} {σ : L2.St} {a : Addr} {ds : List D} {us : List V} {f : List D → List D} (p : Pre W M δ σ H) (ow : Own W M0 M H ω) (e : In2 W M0 H0 M1 L1 M H) (d0 : ∀ a, M0 a → ∃ o, H0 a = some o) (hm : (a, ds) ∈ ω)
    (hr : ∀ ds, (a, ds) ∈ ω → Reps W M H us (f ds)) : Pre W M δ σ (upd H a (.lst us)) ∧ Own W M0 M (upd H a (.lst us)) (putO ω a f) ∧ In2 W M0 H0 M1 L1 M (upd H a (.lst us)) := by
  obtain ⟨hM, n0, ns, nb, vs, ha, _⟩ := ow a ds hm
  have up : ∀ {v : V} {d : D}, Rep W M H v d → Rep W M (upd H a (.lst us)) v d := fun r => r.upd (rdT_lst ha) hM
  have ups : ∀ {v : List V} {d : List D}, Reps W M H v d → Reps W M (upd H a (.lst us)) v d := fun r => r.upd (rdT_lst ha) hM
  have gg : StOk W (upd H a (.lst us)) := fun s hs => by
    obtain ⟨n1, i1, c1, m1, a1, a2, a3, a4⟩ := p.wf.g s hs
    exact ⟨n1, i1, c1, m1, by rw [upd_ne (fun z => ns (Wd.S_of hs z.symm))]; exact a1, a2, by rw [upd_ne (nb s hs)]; exact a3, a4⟩
  have off : H0 a = none := by
    by_cases z : M0 a
    · exact absurd z n0
    · exact e.e.new a hM z
  refine ⟨⟨⟨gg, p.wf.sm, fun b hb => ?_⟩, p.sl.len, fun j d hd => ?_⟩, fun b es m => ?_, ⟨⟨fun b o nsb hb => ?_, e.e.m, e.e.new⟩, ⟨fun b o nsb nl hb => ?_, e.l.m, e.l.new⟩⟩⟩
  · by_cases z : b = a
    · exact ⟨_, by rw [z]; exact upd_same⟩
    · obtain ⟨o, ho⟩ := p.wf.dom b hb
      exact ⟨o, by rw [upd_ne z]; exact ho⟩
  · obtain ⟨v, h1, h2⟩ := p.sl.get j d hd
    exact ⟨v, h1, up h2⟩
  · obtain ⟨ds', h1, rfl⟩ := mem_putO m
    obtain ⟨x1, x2, x3, x4, vs', x5, x6⟩ := ow b ds' h1
    by_cases z : b = a
    · subst z
      rw [if_pos rfl]
      exact ⟨x1, x2, x3, x4, us, upd_same, ups (hr ds' h1)⟩
    · rw [if_neg z]
      exact ⟨x1, x2, x3, x4, vs', by rw [upd_ne z]; exact x5, ups x6⟩
  · have z : b ≠ a := fun z => by rw [z, off] at hb; cases hb
    rw [upd_ne z]
    exact e.e.k b o nsb hb
  · have kept := e.l.k b o nsb nl hb
    have z : b ≠ a := fun z => by
      subst z
      rw [ha] at kept
      cases kept
      by_cases m1 : M1 b
      · exact nl m1 _ rfl
      · rw [e.l.new b hM m1] at hb
        cases hb
    rw [upd_ne z]
    exact kept
/-- xs.append(e) -/
theorem so_app {i : Nat} {a : Addr} {ds : List D} (hi : δ[i]? = some (some (.obj a))) (hm : (a, ds) ∈ ω) (hu : ∀ es, (a, es) ∈ ω → es.length < 100000) (h : EvA W ta δ fun xs => ∃ d, xs = [d] ∧ N (putO ω a fun es => es ++ [d]) δ) : SO W Wx (tDrop (tBM W.K "list" rAppend (tVar i) ta)) ω δ N R B C X := fun M0 H0 M1 L1 M σ H E d0 p ow e o => by
  obtain ⟨v, s1, r1⟩ := p.sl.get i _ hi
  cases r1
  obtain ⟨hM, n0, ns, nb, vs, ha, rr⟩ := ow a ds hm
  refine ⟨_, s1, .inl ⟨rfl, _, SqL.of ha⟩, h M σ H p _ fun us xs H1 g1 k1 r1 h1 => ?_⟩
  obtain ⟨d, rfl, hN⟩ := h1
  cases r1 with
  | cons r1 r2 =>
    cases r2
    have ha1 := k1 a _ ns ha
    refine ⟨a, vs, _, rfl, rfl, ha1, ?_, ?_⟩
    · rw [rr.length]
      exact Nat.lt_of_lt_of_le (hu ds hm) (by decide)
    · have one : ∀ es, (a, es) ∈ ω → Reps W M H1 (vs ++ [_]) (es ++ [d]) := fun es m => by
        obtain ⟨_, _, _, _, vs', q1, q2⟩ := ow a es m
        rw [ha] at q1
        cases q1
        exact (q2.keep p.wf k1).append (.cons r1 .nil)
      obtain ⟨x1, x2, x3⟩ := own_upd (f := fun es => es ++ [d]) (p.next g1 k1) (ow.keep p.wf k1) (e.next p.wf k1) d0 hm one
      exact o.nx M _ _ _ _ x1 x2 x3 hN
/-- xs[k] = e -/
theorem so_set {i j : Nat} {a : Addr} {ds : List D} {ti : TE} (hi : δ[i]? = some (some (.obj a))) (hm : (a, ds) ∈ ω) (h : EvD W te δ fun d => EvD W ti δ fun x => x = .int (j : Int) ∧ (∀ es, (a, es) ∈ ω → j < es.length) ∧ N (putO ω a fun es => es.set j d) δ) : SO W Wx (tAsg te (gSub (tVar i) ti rSetL)) ω δ N R B C X := fun M0 H0 M1 L1 M σ H E d0 p ow e o => by
  obtain ⟨v, s1, r1⟩ := p.sl.get i _ hi
  cases r1
  obtain ⟨hM, n0, ns, nb, vs, ha, rr⟩ := ow a ds hm
  refine h M σ H p _ fun v d H1 g1 k1 r1 h1 => ⟨_, s1, ?_⟩
  have p1 := p.next g1 k1
  refine h1 M σ H1 p1 _ fun u x H2 g2 k2 r2 h2 => ?_
  obtain ⟨rfl, hj, hN⟩ := h2
  cases r2
  have k12 := k1.trans k2
  have ha2 := k12 a _ ns ha
  have hl : j < vs.length := by rw [rr.length]; exact hj ds hm
  refine ⟨a, vs, j, j, rfl, rfl, ha2, ?_, ?_⟩
  · unfold ixN
    simp
    omega
  · have one : ∀ es, (a, es) ∈ ω → Reps W M H2 (vs.set j v) (es.set j d) := fun es m => by
      obtain ⟨_, _, _, _, vs', q1, q2⟩ := ow a es m
      rw [ha] at q1
      cases q1
      exact ((q2.keep p.wf k1).keep p1.wf k2).setR j (r1.keep p1.wf k2)
    obtain ⟨x1, x2, x3⟩ := own_upd (f := fun es => es.set j d) (p1.next g2 k2) (ow.keep p.wf k12) (e.next p.wf k12) d0 hm one
    exact o.nx M _ _ _ _ x1 x2 x3 hN
/-- for, over what is none of these lists -/
theorem so_for {wi : TI} (h : IterD W wi δ fun ds => ∃ Inv : Nat → Om → DS → Prop, Inv 0 ω δ ∧ (∀ i d ω' δ', ds[i]? = some d → Inv i ω' δ' → ∃ js, GD W g d δ' js fun δ2 => SO W Wx ts ω' δ2 (Inv (i + 1)) R N (Inv (i + 1)) X) ∧ ∀ ω' δ', Inv ds.length ω' δ' → N ω' δ') : SO W Wx (tFor wi g ts) ω δ N R B C X := fun M0 H0 M1 L1 M σ H E d0 p ow e o =>
  h M σ H p _ fun J H1 ds g1 k1 ⟨I, i0, it, ie⟩ src => by
    have p1 := p.next g1 k1
    refine ⟨fun i m σ' H' => m = ds.length - i ∧ i ≤ ds.length ∧ ∃ M' ω' δ', Pre W M' δ' σ' H' ∧ Own W M0 M' H' ω' ∧ Ent W M0 H0 M' H' ∧ EntM W M H1 M' H' ∧ I i ω' δ', ⟨_, rfl, Nat.zero_le _, M, ω, δ, p1, ow.keep p.wf k1, (e.next p.wf k1).e, EntM.refl M H1, i0⟩, ?_⟩
    rintro i m σ' H' ⟨rfl, hi, M', ω', δ', p', ow', e', l', hI⟩
    have base : ∀ {M2 : Addr → Prop} {H2 : Hp}, In2 W M0 H0 M H1 M2 H2 → In2 W M0 H0 M1 L1 M2 H2 := fun x => ⟨x.e, (e.next p.wf k1).l.trans x.l p1.wf⟩
    obtain ⟨s1, s2⟩ := src M' l'.m l'.new i H' l'.k p'.wf.g
    by_cases hlt : i < ds.length
    · obtain ⟨hgo, hy⟩ := s2 ds[i] (List.getElem?_eq_getElem hlt)
      refine .inr ⟨hgo, fun σ2 H2 => ∃ M2 ω2 δ2, Pre W M2 δ2 σ2 H2 ∧ Own W M0 M2 H2 ω2 ∧ In2 W M0 H0 M H1 M2 H2 ∧ I (i + 1) ω2 δ2, ?_, fun x H3 y => ?_⟩
      · rintro σ2 H2 ⟨M2, ω2, δ2, q1, q2, q3, q4⟩
        exact ⟨_, by omega, rfl, hlt, M2, ω2, δ2, q1, q2, q3.e, q3.l, q4⟩
      · obtain ⟨g3, k3, r3⟩ := hy x H3 y
        obtain ⟨js, hg⟩ := it i ds[i] ω' δ' (List.getElem?_eq_getElem hlt) hI
        refine hg M' σ' H3 x (p'.next g3 k3) r3 _ fun σ4 δ4 p4 hb _ => ?_
        exact hb M0 H0 M H1 M' σ4 H3 _ d0 p4 (ow'.keep p'.wf k3) (In2.next ⟨e', l'⟩ p'.wf k3) ⟨fun M5 σ5 ω5 δ5 H5 p5 ow5 e5 x5 => ⟨M5, ω5, δ5, p5, ow5, e5, x5⟩, o.rt, fun M5 σ5 ω5 δ5 H5 p5 ow5 e5 x5 => o.nx M5 σ5 ω5 δ5 H5 p5 ow5 (base e5) x5, fun M5 σ5 ω5 δ5 H5 p5 ow5 e5 x5 => ⟨M5, ω5, δ5, p5, ow5, e5, x5⟩, o.xw⟩
    · have ee : i = ds.length := by omega
      refine .inl ⟨s1 ee, o.nx M' σ' ω' δ' H' p' ow' (base ⟨e', l'⟩) (ie ω' δ' ?_)⟩
      rw [← ee]
      exact hI
mutual
def D.nref : D → Bool
  | .non | .bl _ | .int _ | .str _ | .ty _ | .obj _ => true
  | .tup xs => D.nrefs xs
  | _ => false
def D.nrefs : List D → Bool
  | [] => true
  | x :: xs => x.nref && D.nrefs xs
end
mutual
theorem Rep.nref {M M2 : Addr → Prop} {H : Hp} : ∀ {v : V} {d : D}, Rep W M H v d → d.nref = true → Rep W M2 H v d
  | _, _, .non, _ => .non
  | _, _, .bl b, _ => .bl b
  | _, _, .int i, _ => .int i
  | _, _, .str x, _ => .str x
  | _, _, .ty n, _ => .ty n
  | _, _, .tup hs r, h => .tup hs (r.nref (by simpa [D.nref] using h))
  | _, _, .lst _ _ _, h => by simp [D.nref] at h
  | _, _, .st _, h => by simp [D.nref] at h
  | _, _, .obj a, _ => .obj a
  | _, _, .dct _ _, h => by simp [D.nref] at h
  | _, _, .ins _ _ _ _, h => by simp [D.nref] at h
  | _, _, .exc _ _ _ _, h => by simp [D.nref] at h
  | _, _, .xob0 _ _, h => by simp [D.nref] at h
  | _, _, .xob _ _ _ _ _ _, h => by simp [D.nref] at h
  | _, _, .dic _ _ _ _, h => by simp [D.nref] at h
theorem Reps.nref {M M2 : Addr → Prop} {H : Hp} : ∀ {vs : List V} {ds : List D}, Reps W M H vs ds → D.nrefs ds = true → Reps W M2 H vs ds
  | _, _, .nil, _ => .nil
  | _, _, .cons r t, h => by
    simp only [D.nrefs, Bool.and_eq_true] at h
    exact .cons (r.nref h.1) (t.nref h.2)
end
theorem nrefs_of {xs : List D} (h : ∀ x ∈ xs, x.nref = true) : D.nrefs xs = true := by
  induction xs with
  | nil => simp only [D.nrefs]
  | cons y ys ih =>
    simp only [D.nrefs, Bool.and_eq_true]
    exact ⟨h y List.mem_cons_self, ih fun x hx => h x (List.mem_cons_of_mem _ hx)⟩
theorem nref_tup {xs : List D} (h : ∀ x ∈ xs, x.nref = true) : (D.tup xs).nref = true := by simp only [D.nref]; exact nrefs_of h
theorem nref_fr (p : Fr) : (fr p).nref = true := by simp [D.nref, D.nrefs]
theorem nref_un (u : List Fr) : (un u).nref = true := nref_tup fun x hx => by
  obtain ⟨p, _, rfl⟩ := List.mem_map.mp hx
  exact nref_fr p
def Lent (W : Wd) (M : Addr → Prop) (H : Hp) (ω : Om) : Prop := ∀ a ds, (a, ds) ∈ ω → ¬ M a ∧ ∃ vs, H a = some (.lst vs) ∧ Reps W M H vs ds
def EvL (W : Wd) (te : TE) (ω : Om) (δ : DS) (P : D → Prop) : Prop := ∀ (M : Addr → Prop) (σ : L2.St) (H : Hp), Pre W M δ σ H → Lent W M H ω → ∀ Q : VK, (∀ v d H', StOk W H' → Keep W H H' → Rep W M H' v d → P d → Q v H') → te σ H Q
def EvTL (W : Wd) (tt : TT) (ω : Om) (δ : DS) (P : Bool → Prop) : Prop := ∀ (M : Addr → Prop) (σ : L2.St) (H : Hp), Pre W M δ σ H → Lent W M H ω → ∀ Q : Bool → Hp → Prop, (∀ b H', StOk W H' → Keep W H H' → P b → Q b H') → tt σ H Q
theorem evl_ev {P : D → Prop} (h : EvD W te δ P) : EvL W te ω δ P := fun M σ H p _ Q q => h M σ H p Q q
theorem evtl_ev {P : Bool → Prop} (h : EvT W t δ P) : EvTL W t ω δ P := fun M σ H p _ Q q => h M σ H p Q q
theorem lent_put {M : Addr → Prop} {σ : L2.St} {H : Hp} {i : Nat} {a : Addr} {ds : List D} (hi : δ[i]? = some (some (.obj a))) (hm : (a, ds) ∈ ω) (p : Pre W M δ σ H) (l : Lent W M H ω) : Pre W M (δ.set i (some (.lst ds))) σ H := by
  obtain ⟨n, vs, ha, r⟩ := l a ds hm
  refine ⟨p.wf, by rw [List.length_set]; exact p.sl.len, fun j d hd => ?_⟩
  by_cases z : i = j
  · subst z
    obtain ⟨v, h1, h2⟩ := p.sl.get i _ hi
    cases h2
    have hl := (List.getElem?_eq_some_iff.mp hi).1
    rw [List.getElem?_set_self hl] at hd
    cases hd
    exact ⟨_, h1, .lst n ha r⟩
  · rw [List.getElem?_set_ne z] at hd
    exact p.sl.get j d hd
theorem evl_put {P : D → Prop} {a : Addr} {ds : List D} (i : Nat) (hi : δ[i]? = some (some (.obj a))) (hm : (a, ds) ∈ ω) (h : EvL W te ω (δ.set i (some (.lst ds))) P) : EvL W te ω δ P := fun M σ H p l Q q => h M σ H (lent_put hi hm p l) l Q q
theorem evtl_put {P : Bool → Prop} {a : Addr} {ds : List D} (i : Nat) (hi : δ[i]? = some (some (.obj a))) (hm : (a, ds) ∈ ω) (h : EvTL W t ω (δ.set i (some (.lst ds))) P) : EvTL W t ω δ P := fun M σ H p l Q q => h M σ H (lent_put hi hm p l) l Q q
theorem own_lend {M0 M : Addr → Prop} {σ : L2.St} {H : Hp} (p : Pre W M δ σ H) (ow : Own W M0 M H ω) : Pre W (fun a => M a ∧ ∀ x ∈ ω, x.1 ≠ a) δ σ H ∧ Lent W (fun a => M a ∧ ∀ x ∈ ω, x.1 ≠ a) H ω := by
  have less : ∀ a, (M a ∧ ∀ x ∈ ω, x.1 ≠ a) → M a := fun a x => x.1
  refine ⟨⟨⟨p.wf.g, fun a z => ⟨p.wf.sm a z, fun x hx e => ?_⟩, fun a x => p.wf.dom a x.1⟩, p.sl.len, fun j d hd => ?_⟩, fun a ds m => ?_⟩
  · obtain ⟨_, _, ns, _⟩ := ow x.1 x.2 hx
    exact ns (by rw [e]; exact z)
  · obtain ⟨v, h1, h2⟩ := p.sl.get j d hd
    exact ⟨v, h1, h2.anti less⟩
  · obtain ⟨_, _, _, _, vs, ha, r⟩ := ow a ds m
    exact ⟨fun z => z.2 _ m rfl, vs, ha, r.anti less⟩
theorem so_asgL {i : Nat} (h : EvL W te ω δ fun d => d.nref = true ∧ N ω (δ.set i (some d))) : SO W Wx (tAsg te (gName i)) ω δ N R B C X := fun M0 H0 M1 L1 M σ H E d0 p ow e o => by
  obtain ⟨p2, l2⟩ := own_lend p ow
  exact h _ σ H p2 l2 _ fun v d H1 g1 k1 r1 h1 => o.nx M _ ω _ H1 ⟨p.wf.next g1 k1, (p.next g1 k1).sl.set i (r1.nref h1.1)⟩ (ow.keep p.wf k1) (e.next p.wf k1) h1.2
theorem so_retL (h : EvL W te ω δ fun d => d.nref = true ∧ R d) : SO W Wx (tRet te) ω δ N R B C X := fun M0 H0 M1 L1 M σ H E d0 p ow e o => by
  obtain ⟨p2, l2⟩ := own_lend p ow
  exact h _ σ H p2 l2 _ fun v d H1 g1 k1 r1 h1 => o.rt v d H1 g1 (e.e.k.trans k1) (r1.nref h1.1) h1.2
theorem so_ifL (h : EvTL W t ω δ fun b => (b = true → SO W Wx ts ω δ N R B C X) ∧ (b = false → SO W Wx tu ω δ N R B C X)) : SO W Wx (tIfS t ts tu) ω δ N R B C X := fun M0 H0 M1 L1 M σ H E d0 p ow e o => by
  obtain ⟨p2, l2⟩ := own_lend p ow
  refine h _ σ H p2 l2 _ fun b H1 g1 k1 h1 => ?_
  cases b with
  | true =>
    rw [if_pos rfl]
    exact h1.1 rfl M0 H0 M1 L1 M σ H1 E d0 (p.next g1 k1) (ow.keep p.wf k1) (e.next p.wf k1) o
  | false =>
    rw [if_neg Bool.false_ne_true]
    exact h1.2 rfl M0 H0 M1 L1 M σ H1 E d0 (p.next g1 k1) (ow.keep p.wf k1) (e.next p.wf k1) o
/-- such a list is returned: it is one's own no more -/
theorem so_retO {i : Nat} {a : Addr} {ds : List D} (hi : δ[i]? = some (some (.obj a))) (hm : (a, ds) ∈ ω) (h : R (.lst ds)) : SO W Wx (tRet (tVar i)) ω δ N R B C X := fun M0 H0 M1 L1 M σ H E d0 p ow e o => by
  obtain ⟨v, s1, r1⟩ := p.sl.get i _ hi
  cases r1
  obtain ⟨hM, n0, ns, nb, vs, ha, rr⟩ := ow a ds hm
  exact ⟨_, s1, o.rt _ (.lst ds) H p.wf.g e.e.k (.lst n0 ha (rr.anti e.e.m)) h⟩
end
theorem body_ofO {K : PySem.W.Frag} {F : FD} {vs : List V} {H : Hp} {Q : VK} {E : XK} {N : List Str} {t : TS} (h : spD K F vs H Q E)
    (hb : ∀ W ds P, W.K = K → F ds P → SO W WF t [] (startD N.length ds) (fun _ _ => P .non) P (fun _ _ => False) (fun _ _ => False) XN) : t { nx := fun _ H' => Q .non H', rt := Q } (L2.start N vs) H := by
  obtain ⟨W, M, ds, P, e, w, r, f, q⟩ := h
  exact hb W ds P e f M H M H M _ H _ w.dom ⟨w, start_slots N r⟩ (fun a ds m => by cases m) ⟨Ent.refl M H, EntM.refl M H⟩
    ⟨fun M' σ' ω' δ' H' p' ow' e' x => q .non .non H' p'.wf.g e'.e.k .non x, fun v d H' g k r' x => q v d H' g k r' x, fun _ _ _ _ _ _ _ _ x => x.elim, fun _ _ _ _ _ _ _ _ x => x.elim, fun _ _ _ _ _ _ _ _ _ _ z => z.elim⟩
theorem body_ofXO {K : PySem.W.Frag} {F : FX} {vs : List V} {H : Hp} {Q : VK} {E : XK} {N : List Str} {t : TS} (h : spX K F vs H Q E)
    (hb : ∀ W ds P X, W.K = K → F ds P X → SO W (fun cls d _ H => E cls d H) t [] (startD N.length ds) (fun _ _ => P .non) P (fun _ _ => False) (fun _ _ => False) (fun x _ => X x)) : t { nx := fun _ H' => Q .non H', rt := Q } (L2.start N vs) H := by
  obtain ⟨W, M, ds, P, X, e, w, r, f, q, qx⟩ := h
  exact hb W ds P X e f M H M H M _ H _ w.dom ⟨w, start_slots N r⟩ (fun a ds m => by cases m) ⟨Ent.refl M H, EntM.refl M H⟩
    ⟨fun M' σ' ω' δ' H' p' ow' e' x => q .non .non H' p'.wf.g e'.e.k .non x, fun v d H' g k r' x => q v d H' g k r' x, fun _ _ _ _ _ _ _ _ x => x.elim, fun _ _ _ _ _ _ _ _ x => x.elim, fun M' σ' δ' H' cls d x p' e' rx hx => qx cls d x H' p'.wf.g e'.k (rx.anti e'.m) hx⟩
end PD
namespace PD
open PySem PySem.Spec PyProof.Rows L2
open PDX PDI PDT
section
variable {W : Wd} {δ : DS} {te : TE}
theorem Slots.keepM {M : Addr → Prop} {H H' : Hp} {σ : L2.St} (w : Wg W M H) (k : KeepM W M H H') (s : Slots W M H σ δ) : Slots W M H' σ δ := ⟨s.len, fun j d hd => by
  obtain ⟨v, a, r⟩ := s.get j d hd
  exact ⟨v, a, r.keepM w k⟩⟩
/-- how a comprehension's list stands: at Dl, since H1 -/
structure Acc (W : Wd) (M1 : Addr → Prop) (H1 : Hp) (Dl : Addr) (acc : List D) (H : Hp) : Prop where
  k : Keep W H1 H
  g : StOk W H
  at_ : ∃ vs, H Dl = some (.lst vs) ∧ Reps W M1 H vs acc
theorem Acc.keep {M1 : Addr → Prop} {H1 H H' : Hp} {Dl : Addr} {acc : List D} (wf : Wf W M1 H) (ns : ¬ W.S Dl) (a : Acc W M1 H1 Dl acc H) (g : StOk W H') (k : Keep W H H') : Acc W M1 H1 Dl acc H' := by
  obtain ⟨vs, e, r⟩ := a.at_
  exact ⟨a.k.trans k, g, vs, k Dl _ ns e, r.keep wf k⟩
/-- an item more -/
theorem Acc.put {M1 : Addr → Prop} {H1 H : Hp} {Dl : Addr} {acc : List D} {y : V} {d : D} (hD : H1 Dl = none) (ns : ¬ W.S Dl) (nb : ∀ s, W.s = some s → W.b ≠ Dl) (hM : M1 Dl) (a : Acc W M1 H1 Dl acc H) (r : Rep W M1 H y d) (hl : acc.length < 1000000) :
    ∃ vs, H Dl = some (.lst vs) ∧ vs.length < sizeLine ∧ Acc W M1 H1 Dl (acc ++ [d]) (upd H Dl (.lst (vs ++ [y]))) ∧ KeepM W M1 H (upd H Dl (.lst (vs ++ [y]))) := by
  obtain ⟨vs, e, rr⟩ := a.at_
  have g' : StOk W (upd H Dl (.lst (vs ++ [y]))) := fun s hs => by
    obtain ⟨n, i, c, m, q1, q2, q3, q4⟩ := a.g s hs
    exact ⟨n, i, c, m, by rw [upd_ne (fun z => ns (Wd.S_of hs z.symm))]; exact q1, q2, by rw [upd_ne (nb s hs)]; exact q3, q4⟩
  have k' : Keep W H1 (upd H Dl (.lst (vs ++ [y]))) := fun b o n h => by
    rw [upd_ne (ne_of_none h hD)]
    exact a.k b o n h
  refine ⟨vs, e, ?_, ⟨k', g', _, upd_same, ((rr.append (.cons r .nil)).upd (rdT_lst e) hM)⟩, fun b o n l h => ?_⟩
  · rw [rr.length]
    exact Nat.lt_of_lt_of_le hl (by decide)
  · have z : b ≠ Dl := fun z => by
      subst z
      rw [e] at h
      exact l hM _ (Option.some.inj h).symm
    rw [upd_ne z]
    exact h
theorem ev_lc2 {wi wi1 : TI} {g g1 : TG} {tt tt1 : TT} {vs vs1 : List Nat} {P : D → Prop} (h : IterD W wi δ fun ds => ∃ Inv : Nat → List D → Prop, Inv 0 [] ∧
    (∀ i d acc, ds[i]? = some d → Inv i acc → ∃ js, (∀ j ∈ js, j ∈ vs) ∧ GD W g d (wipeD δ vs) js fun δ2 => EvT W tt δ2 fun b => (b = true → IterD W wi1 δ2 fun es => ∃ Inv1 : Nat → List D → Prop, Inv1 0 acc ∧
      (∀ j e acc1, es[j]? = some e → Inv1 j acc1 → acc1.length < 1000000 ∧ ∃ js1, (∀ j ∈ js1, j ∈ vs1) ∧ GD W g1 e (wipeD δ2 vs1) js1 fun δ3 => EvT W tt1 δ3 fun b => (b = true → EvD W te δ3 fun y => Inv1 (j + 1) (acc1 ++ [y])) ∧ (b = false → Inv1 (j + 1) acc1)) ∧
      ∀ acc1, Inv1 es.length acc1 → Inv (i + 1) acc1) ∧ (b = false → Inv (i + 1) acc)) ∧ ∀ acc, Inv ds.length acc → P (.lst acc)) :
    EvD W (tLc2 wi g tt wi1 g1 tt1 te vs vs1) δ P := fun M σ H p Q q =>
  h M σ H p _ fun J H1 ds g1' k1 ⟨I, i0, it, ie⟩ src => by
    intro Dl hD
    have p1 := p.next g1' k1
    let M' : Addr → Prop := fun a => M a ∨ a = Dl
    have hm : ∀ a, M a → M' a := fun a x => .inl x
    have hn : ∀ a, M' a → ¬ M a → H1 a = none := fun a x y => by
      rcases x with x | x
      · exact absurd x y
      · rw [x]; exact hD
    have ns : ¬ W.S Dl := fun z => by
      obtain ⟨_, q⟩ := StOk.at g1' z
      rw [hD] at q
      cases q
    have nb : ∀ s, W.s = some s → W.b ≠ Dl := fun s hs z => by
      obtain ⟨_, _, _, _, _, _, q, _⟩ := g1' s hs
      rw [z, hD] at q
      cases q
    have notM : ¬ M Dl := fun m => by
      obtain ⟨o, ho⟩ := p1.wf.dom Dl m
      rw [hD] at ho
      cases ho
    have wfA : ∀ {acc : List D} {H' : Hp}, Acc W M' H1 Dl acc H' → Wf W M' H' := fun {acc H'} a => ⟨a.g, fun b z => .inl (p.wf.sm b z), fun b x => by
      rcases x with x | x
      · exact (p1.wf.next a.g a.k).dom b x
      · obtain ⟨_, e, _⟩ := a.at_
        rw [x]
        exact ⟨_, e⟩⟩
    refine ⟨fun i m H' => m = ds.length - i ∧ i ≤ ds.length ∧ ∃ acc, Acc W M' H1 Dl acc H' ∧ I i acc, ⟨_, rfl, Nat.zero_le _, [], ⟨Keep.new hD, g1'.new hD, [], upd_same, .nil⟩, i0⟩, ?_⟩
    rintro i m H' ⟨rfl, hi, acc, A, hI⟩
    have wf' := wfA A
    obtain ⟨s1, s2⟩ := src M' hm hn i H' A.k.toM A.g
    by_cases hlt : i < ds.length
    · obtain ⟨hgo, hy⟩ := s2 ds[i] (List.getElem?_eq_getElem hlt)
      refine .inr ⟨hgo, fun H2 => ∃ acc, Acc W M' H1 Dl acc H2 ∧ I (i + 1) acc, ?_, fun x H3 y => ?_⟩
      · rintro H2 ⟨acc2, z⟩
        exact ⟨_, by omega, rfl, hlt, acc2, z⟩
      · obtain ⟨g3, k3, r3⟩ := hy x H3 y
        have A3 := A.keep wf' ns g3 k3
        have wf3 := wfA A3
        obtain ⟨js, hjs, hg⟩ := it i ds[i] acc (List.getElem?_eq_getElem hlt) hI
        have sl : Slots W M' H3 (wipe σ vs) (wipeD δ vs) := by
          have s0 : Slots W M H1 (wipe σ vs) (wipeD δ vs) := p1.sl.wipe vs
          have wg : Wg W M' H1 := ⟨g1', fun a z => .inl (p.wf.sm a z)⟩
          exact ⟨s0.len, fun j d hd => by
            obtain ⟨v, a1, a2⟩ := s0.get j d hd
            exact ⟨v, a1, (a2.more hn).keepG wg A3.k⟩⟩
        refine hg M' (wipe σ vs) H3 x ⟨wf3, sl⟩ r3 _ fun σ4 δ4 p4 hb hw => ?_
        refine ⟨by rw [hw vs hjs, wipe_wipe], ?_⟩
        refine hb M' σ4 H3 p4 _ fun b H5 g5 k5 h5 => ?_
        have A5 := A3.keep wf3 ns g5 k5
        have p5 := p4.next g5 k5
        cases b with
        | false =>
          rw [if_neg Bool.false_ne_true]
          exact ⟨acc, A5, h5.2 rfl⟩
        | true =>
          rw [if_pos rfl]
          refine h5.1 rfl M' σ4 H5 p5 _ fun J1 H6 es g6 k6 ⟨I1, j0, jt, je⟩ src1 => ?_
          have A6 := A5.keep (wfA A5) ns g6 k6
          have p6 := p5.next g6 k6
          refine ⟨fun j k H' => k = es.length - j ∧ j ≤ es.length ∧ ∃ acc, Acc W M' H1 Dl acc H' ∧ KeepM W M' H6 H' ∧ I1 j acc, ⟨_, rfl, Nat.zero_le _, acc, A6, fun _ _ _ _ h => h, j0⟩, ?_⟩
          rintro j k H7 ⟨rfl, hj, acc7, A7, K7, hJ⟩
          have wf7 := wfA A7
          obtain ⟨t1, t2⟩ := src1 M' (fun _ x => x) (fun _ x y => absurd x y) j H7 K7 A7.g
          by_cases hlt1 : j < es.length
          · obtain ⟨hgo1, hy1⟩ := t2 es[j] (List.getElem?_eq_getElem hlt1)
            refine .inr ⟨hgo1, fun H2 => ∃ acc, Acc W M' H1 Dl acc H2 ∧ KeepM W M' H6 H2 ∧ I1 (j + 1) acc, ?_, fun x8 H8 y8 => ?_⟩
            · rintro H2 ⟨acc2, z⟩
              exact ⟨_, by omega, rfl, hlt1, acc2, z⟩
            · obtain ⟨g8, k8, r8⟩ := hy1 x8 H8 y8
              have A8 := A7.keep wf7 ns g8 k8
              have K8 : KeepM W M' H6 H8 := fun a o n l h => k8 a o n (K7 a o n l h)
              have wf8 := wfA A8
              obtain ⟨hacc, js1, hjs1, hg1⟩ := jt j es[j] acc7 (List.getElem?_eq_getElem hlt1) hJ
              have sl1 : Slots W M' H8 (wipe σ4 vs1) (wipeD δ4 vs1) := (p6.sl.wipe vs1).keepM p6.wf.wg K8
              refine hg1 M' (wipe σ4 vs1) H8 x8 ⟨wf8, sl1⟩ r8 _ fun σ9 δ9 p9 hb9 hw9 => ?_
              refine ⟨by rw [hw9 vs1 hjs1, wipe_wipe], ?_⟩
              refine hb9 M' σ9 H8 p9 _ fun b H10 g10 k10 h10 => ?_
              have A10 := A8.keep wf8 ns g10 k10
              have K10 : KeepM W M' H6 H10 := fun a o n l h => k10 a o n (K8 a o n l h)
              cases b with
              | false =>
                rw [if_neg Bool.false_ne_true]
                exact ⟨acc7, A10, K10, h10.2 rfl⟩
              | true =>
                rw [if_pos rfl]
                refine h10.1 rfl M' σ9 H10 (p9.next g10 k10) _ fun v d H11 g11 k11 r11 h11 => ?_
                have A11 := A10.keep (wfA A10) ns g11 k11
                obtain ⟨us, e, l, A12, K12⟩ := A11.put hD ns nb (.inr rfl) r11 hacc
                refine ⟨us, e, l, acc7 ++ [d], A12, fun a o n nl h => ?_, h11⟩
                have h2 := k11 a o n (K10 a o n nl h)
                exact K12 a o n nl h2
          · have ee : j = es.length := by omega
            exact .inl ⟨t1 ee, acc7, A7, je acc7 (ee ▸ hJ)⟩
    · have ee : i = ds.length := by omega
      obtain ⟨vs', e, r⟩ := A.at_
      exact .inl ⟨s1 ee, q _ (.lst acc) H' A.g (k1.trans A.k) (.lst notM e (r.anti hm)) (ie acc (ee ▸ hI))⟩
end
end PD
namespace PD
open PySem PySem.Spec PyProof.Rows L2
open PDX PDI PDT
open AutoSeq1 (wpAny_loadPart')
def isIns (H : Hp) (C : Addr) (y : V) : Prop := ∃ a dx fs, y = .ref a ∧ H a = some (.ins C dx fs)
end PD
namespace PD
open PySem PySem.Spec PyProof.Rows L2
open PDX PDI PDT
section
variable {W : Wd} {δ : DS} {P : D → Prop}
theorem ev_obj {a : Addr} (h : P (.obj a)) : EvD W (tC (.ref a)) δ P := fun M σ H p Q q => q _ _ H p.wf.g (Keep.refl H) (.obj a) h
end
end PD
namespace PD
open PySem PySem.Spec PyProof.Rows L2
open PDX PDI PDT
abbrev gd (C : Addr) (n : Int) (xs : List D) : D := .ins C ["bases", "rows"] [.int n, .tup xs]
/-- so many columns, each cell a right one -/
structure Grd (n : Int) (m : Nat) (xs : List D) : Prop where
  n1 : 1 ≤ n
  n3 : n ≤ 3
  l1 : 1 ≤ xs.length
  l10 : xs.length ≤ 10
  m1 : 1 ≤ m
  m10 : m ≤ 10
  row : ∀ e ∈ xs, ∃ cs, e = .tup cs ∧ cs.length = m ∧ ∀ c ∈ cs, isCl n c = true
theorem Grd.ok {n : Int} {m : Nat} {xs : List D} (g : Grd n m xs) : GridOk n xs := ⟨g.n1, g.n3, g.l1, g.l10, m, g.m1, g.m10, g.row⟩
theorem Grd.at {n : Int} {m : Nat} {xs : List D} (g : Grd n m xs) {i : Nat} {e : D} (h : xs[i]? = some e) : ∃ cs, e = .tup cs ∧ cs.length = m ∧ ∀ c ∈ cs, isCl n c = true := g.row e (List.mem_of_getElem? h)
theorem Grd.at' {n : Int} {m : Nat} {xs : List D} (g : Grd n m xs) {i : Nat} (h : i < xs.length) : ∃ cs, xs[i]? = some (.tup cs) ∧ cs.length = m ∧ ∀ c ∈ cs, isCl n c = true := by
  obtain ⟨cs, e, h2⟩ := g.row xs[i] (List.getElem_mem h)
  exact ⟨cs, by rw [List.getElem?_eq_getElem h, e], h2⟩
theorem Grd.head {n : Int} {m : Nat} {xs : List D} (g : Grd n m xs) : ∃ cs, xs[0]? = some (.tup cs) ∧ cs.length = m ∧ D.len (xs.headD .non) = m := by
  have l1 := g.l1
  obtain ⟨cs, e, h, _⟩ := g.at' (i := 0) (by omega)
  refine ⟨cs, e, h, ?_⟩
  cases xs with
  | nil => cases e
  | cons y ys =>
    cases e
    show (cs.length : Int) = m
    omega
theorem Grd.wrong {n : Int} {m : Nat} {xs : List D} (g : Grd n m xs) : wrongD (.int n) (.tup xs) = .non := by
  have len : hasLen (.tup xs) = true := by
    show (decide (1 ≤ xs.length) && decide (xs.length ≤ 10)) = true
    rw [decide_eq_true g.l1, decide_eq_true g.l10]
    rfl
  rw [wrongD_in g.n1 g.n3, if_pos len]
  obtain ⟨_, _, _, hd⟩ := g.head
  have rows : xs.findIdx? (badRow xs) = none := by
    rw [List.findIdx?_eq_none_iff]
    intro e he
    obtain ⟨cs, rfl, hm, _⟩ := g.row e he
    have m1 := g.m1
    have m10 := g.m10
    unfold badRow
    rw [hd]
    show (!(decide (1 ≤ cs.length) && decide (cs.length ≤ 10)) || decide (¬ (cs.length : Int) = m)) = false
    rw [decide_eq_true (show 1 ≤ cs.length by omega), decide_eq_true (show cs.length ≤ 10 by omega), decide_eq_false (show ¬ ¬ (cs.length : Int) = m by omega)]
    rfl
  have cells : xs.findIdx? (badIn n) = none := by
    rw [List.findIdx?_eq_none_iff]
    intro e he
    obtain ⟨cs, rfl, _, hc⟩ := g.row e he
    unfold badIn
    rw [List.any_eq_false]
    intro c hc'
    rw [hc c hc']
    simp
  show wrongR n xs = .non
  unfold wrongR wrongC
  rw [rows, cells]
theorem Grd.set {n : Int} {m : Nat} {xs cs : List D} (g : Grd n m xs) {i j : Nat} {t : D} (hi : xs[i]? = some (.tup cs)) (ht : isCl n t = true) : Grd n m (xs.set i (.tup (cs.set j t))) := by
  obtain ⟨cs', e, hm, hc⟩ := g.at hi
  cases e
  refine ⟨g.n1, g.n3, by rw [List.length_set]; exact g.l1, by rw [List.length_set]; exact g.l10, g.m1, g.m10, fun e he => ?_⟩
  rcases List.mem_or_eq_of_mem_set he with he | rfl
  · exact g.row e he
  · refine ⟨_, rfl, by rw [List.length_set]; exact hm, fun c hc' => ?_⟩
    rcases List.mem_or_eq_of_mem_set hc' with hc' | rfl
    · exact hc c hc'
    · exact ht
theorem cl_nref {n : Int} {c : D} (h : isCl n c = true) : c.nref = true := by
  rcases cl_of h with rfl | ⟨u, rfl, _⟩
  · simp only [D.nref]
  · exact nref_un u
theorem Grd.nrefs {n : Int} {m : Nat} {xs cs : List D} (g : Grd n m xs) (h : D.tup cs ∈ xs) : D.nrefs cs = true := by
  obtain ⟨cs', e, _, hc⟩ := g.row _ h
  cases e
  exact nrefs_of fun c hc' => cl_nref (hc c hc')
theorem Grd.fine {n : Int} {m : Nat} {xs : List D} (g : Grd n m xs) : (D.tup xs).fine = true := lays_fine g.ok.lays (by decide)
/-- is it the number of one of so many -/
def inI (x : D) (n : Int) : Bool := x.isInt && decide (0 ≤ x.toI) && decide (x.toI < n)
end PD
namespace PD
open PySem PySem.Spec PyProof.Rows L2
open PDX PDI PDT
open AutoSeq1 (wpAny_loadPart')
theorem Grd.jd {K : PySem.W.Frag} {n : Int} {m : Nat} {xs : List D} (g : Grd n m xs) : Jd K (.tup xs) := (Gd.tup (fun x hx => by
  obtain ⟨cs, rfl, hl, hc⟩ := g.row x hx
  exact Gd.tup (fun y hy => cl_gd g.n3 (hc y hy)) (by have := g.m10; omega)) (by have := g.l10; omega)).j
end PD
namespace PDZ
open PySem PySem.Spec PyProof.Rows L2 RZ
section
variable {w : World} {prog : Program} {s : Shared} {A : Around} {E : Value → Shared → Prop}
abbrev zo (h : Heap) (z TI TO : Addr) (v : Value) (f : Bool) : Prop := h.get? z = some { cls := .type "zip", dict := none, data := .fields #[v, .bool f, .bool false, .ref TI, .ref TO], slots := #[] }
/-- is the pair that was handed out last still there? whichever, a new one comes -/
theorem zip_free {z TI TO : Addr} {v : Value} {f : Bool} {Q : Bool → Shared → Prop} (hv : v = .none ∨ ∃ T : Addr, v = rawInt T) (hz : zo s.heap z TI TO v f)
    (h : ∀ b h' f', zo h' z TI TO v f' → Heap.SameBut z s.heap h' → Q b { s with heap := h' }) : wpAny (model prog w) A (Builtin.SmallTypes.ownedTupleIsFree (.ref z)) Q E s := by
  unfold Builtin.SmallTypes.ownedTupleIsFree
  rcases hv with rfl | ⟨T, rfl⟩
  · exact wpAny_bind (wpAny_field hz rfl (x := .none) rfl (wpAny_pure (h true s.heap f hz (Heap.SameBut.refl _ _))))
  · refine wpAny_bind (wpAny_field hz rfl (x := rawInt T) rfl ?_)
    have there : ∀ {a : Addr} {R : Option Obj → Shared → Prop}, R (s.heap.get? a) s → wpAny (model prog w) A (loadIfAlive a) R E s := fun q _ _ _ => q
    refine wpAny_bind (m := loadIfAlive (T : Int).toNat) (there ?_)
    cases s.heap.get? (T : Int).toNat with
    | none => exact wpAny_pure (h true s.heap f hz (Heap.SameBut.refl _ _))
    | some o =>
      cases f with
      | true => exact wpAny_bind (wpAny_field hz rfl (x := .bool true) rfl (wpAny_pure (h false s.heap true hz (Heap.SameBut.refl _ _))))
      | false => exact wpAny_bind (wpAny_field hz rfl (x := .bool false) rfl (wpAny_bind (wpAny_setField_rec hz (by simp) fun g z' b' => wpAny_pure (h false g true z' b'))))
/-- what stays: all but the zip's own objects -/
def Kept5 (z TO i1 i2 : Addr) (h h' : Heap) : Prop := ∀ c o, c ≠ z → c ≠ TO → c ≠ i1 → c ≠ i2 → h.get? c = some o → h'.get? c = some o
/-- the two iterators' next items; TO may get them, too -/
theorem zip_item {z TI TO i1 i2 l1 l2 : Addr} {k1 k2 : Nat} {xs ys : Array Value} {x y a b v : Value} {f : Bool} {Q : Value → Shared → Prop} (D : ZipApart z TI TO i1 i2 l1 l2) (hv : v = .none ∨ ∃ T : Addr, v = rawInt T)
    (hz : zo s.heap z TI TO v f) (pI : IsPair s.heap TI (.ref i1) (.ref i2)) (pO : IsPair s.heap TO a b) (t1 : s.heap.IsTupleIter i1 l1 k1) (t2 : s.heap.IsTupleIter i2 l2 k2) (s1 : s.heap.IsTuple l1 xs) (s2 : s.heap.IsTuple l2 ys) (gx : xs[k1]? = some x) (gy : ys[k2]? = some y)
    (q : ∀ h' v' f', (v' = .none ∨ ∃ T : Addr, v' = rawInt T) → zo h' z TI TO v' f' → (∃ a b, IsPair h' TO a b) → h'.IsTupleIter i1 l1 (k1 + 1) → h'.IsTupleIter i2 l2 (k2 + 1) → IsPair h' s.heap.objs.size x y → h'.objs.size = s.heap.objs.size + 1 →
      Kept5 z TO i1 i2 s.heap h' → Q (.ref s.heap.objs.size) { s with heap := h' }) :
    wpAny (model prog w) A (Builtin.«zip.__next__» ⟨[.ref z], []⟩) (fun fin s' => ∃ u, fin = .done (.ret u) ∧ Q u s') E s := by
  refine wpAny_bind (m := field (.ref z) 2) (wpAny_field hz rfl (x := .bool false) rfl ?_)
  refine wpAny_bind (m := field (.ref z) 3) (wpAny_field hz rfl (x := .ref TI) rfl (wpAny_bind (wpAny_seqItems pI rfl ?_)))
  refine wpAny_bind (m := Builtin.SmallTypes.ownedTupleIsFree (.ref z)) (zip_free hv hz fun free g f' hg gs => ?_)
  have gk : ∀ c o, c ≠ z → s.heap.get? c = some o → g.get? c = some o := gs.extBut
  have a1 := t1.extBut gs.extBut D.i1z
  have a2 := t2.extBut gs.extBut D.i2z
  have b1 := s1.extBut gs.extBut D.l1z
  have b2 := s2.extBut gs.extBut D.l2z
  have oO : IsPair g TO a b := gk _ _ D.TOz pO
  cases free with
  | false =>
    simp only [Bool.false_eq_true, if_false, ← Array.forIn_toList, List.forIn_cons, List.forIn_nil]
    refine wpAny_bind (wpAny_bind (wpAny_bind (wpAny_holding (wpAny_bind (m := Builtin.SmallTypes.nextOf (.ref i1)) (nextOf_tuple_item a1 b1 gx fun h2 c1 e2 => wpAny_pure (wpAny_pure ?_))))))
    refine wpAny_bind (wpAny_bind (wpAny_holding (wpAny_bind (m := Builtin.SmallTypes.nextOf (.ref i2)) (nextOf_tuple_item (a2.extBut e2.extBut D.i12.symm) (b2.extBut e2.extBut D.l2i1) gy fun h3 c2 e3 => wpAny_pure (wpAny_pure (wpAny_pure ?_))))))
    refine wpAny_bind (m := newTuple [x, y]) (wpAny_newTuple (wpAny_pure ⟨_, rfl, ?_⟩))
    have sz : h3.objs.size = s.heap.objs.size := e3.1.trans (e2.1.trans gs.1)
    have z3 : zo h3 z TI TO v f' := e3.extBut _ _ D.i2z.symm (e2.extBut _ _ D.i1z.symm hg)
    have o3 : IsPair h3 TO a b := e3.extBut _ _ D.TOi2 (e2.extBut _ _ D.TOi1 oO)
    have up : ∀ {c : Addr} {o : Obj}, h3.get? c = some o → (h3.push { cls := .type "tuple", data := .seq #[x, y] }).get? c = some o := fun e => Heap.get?_push_of_some _ e
    have got : IsPair (h3.push { cls := .type "tuple", data := .seq #[x, y] }) h3.objs.size x y := Heap.get?_push_size _ rfl
    have more : (h3.push { cls := .type "tuple", data := .seq #[x, y] }).objs.size = h3.objs.size + 1 := Heap.size_push ..
    rw [sz] at got more
    show Q (.ref h3.objs.size) _
    rw [sz]
    exact q _ v f' hv (up z3) ⟨a, b, up o3⟩ ((c1.extBut e3.extBut D.i12).at fun o e => up e) (c2.at fun o e => up e) got more fun c o n1 _ n3 n4 e => up (e3.extBut _ _ n4 (e2.extBut _ _ n3 (gk c o n1 e)))
  | true =>
    simp only [if_true, List.zipIdx_cons, List.zipIdx_nil, List.forIn_cons, List.forIn_nil]
    refine wpAny_bind (wpAny_rule (wpAny_bind (wpAny_field hg rfl (x := .ref TO) rfl (wpAny_bind (wpAny_setField_rec hg (by simp) fun h1 z1 e1 => ?_)))))
    replace z1 : zo h1 z TI TO .ellipsis f' := z1
    refine wpAny_bind (wpAny_bind (wpAny_bind (wpAny_onRaise (wpAny_bind (m := Builtin.SmallTypes.nextOf (.ref i1)) (nextOf_tuple_item (a1.extBut e1.extBut D.i1z) (b1.extBut e1.extBut D.l1z) gx fun h2 c1 e2 => wpAny_pure ?_)))))
    have o2 : IsPair h2 TO a b := e2.extBut _ _ D.TOi1 (e1.extBut _ _ D.TOz oO)
    refine wpAny_bind (wpAny_seqItems o2 rfl (wpAny_bind (wpAny_updateSeq_pair o2 fun h3 o3 e3 => wpAny_bind (wpAny_letGo (wpAny_pure ?_)))))
    replace o3 : IsPair h3 TO x b := o3
    refine wpAny_bind (wpAny_bind (wpAny_onRaise (wpAny_bind (m := Builtin.SmallTypes.nextOf (.ref i2)) (nextOf_tuple_item (((a2.extBut e1.extBut D.i2z).extBut e2.extBut D.i12.symm).extBut e3.extBut D.TOi2.symm) (((b2.extBut e1.extBut D.l2z).extBut e2.extBut D.l2i1).extBut e3.extBut D.l2TO) gy fun h4 c2 e4 => wpAny_pure ?_))))
    have o4 : IsPair h4 TO x b := e4.extBut _ _ D.TOi2 o3
    refine wpAny_bind (wpAny_seqItems o4 rfl (wpAny_bind (wpAny_updateSeq_pair o4 fun h5 o5 e5 => wpAny_bind (wpAny_letGo (wpAny_pure (wpAny_pure ?_))))))
    replace o5 : IsPair h5 TO x y := o5
    refine wpAny_bind (wpAny_seqItems o5 rfl (wpAny_bind (m := newTuple [x, y]) (wpAny_newTuple ?_)))
    have sz : h5.objs.size = s.heap.objs.size := e5.1.trans (e4.1.trans (e3.1.trans (e2.1.trans (e1.1.trans gs.1))))
    have kk : ∀ {c : Addr} {o : Obj}, c ≠ TO → c ≠ i1 → c ≠ i2 → h1.get? c = some o → h5.get? c = some o := fun n2 n3 n4 e => e5.extBut _ _ n2 (e4.extBut _ _ n4 (e3.extBut _ _ n2 (e2.extBut _ _ n3 e)))
    have z5 : zo h5 z TI TO .ellipsis f' := kk D.TOz.symm D.i1z.symm D.i2z.symm z1
    have d1 : h5.IsTupleIter i1 l1 (k1 + 1) := ((c1.extBut e3.extBut D.TOi1.symm).extBut e4.extBut D.i12).extBut e5.extBut D.TOi1.symm
    have d2 : h5.IsTupleIter i2 l2 (k2 + 1) := c2.extBut e5.extBut D.TOi2.symm
    have lz : z ≠ h5.objs.size := Nat.ne_of_lt (Heap.lt_size z5)
    unfold Builtin.SmallTypes.ownedTupleHandOut
    have z6 : zo (h5.push { cls := .type "tuple", data := .seq #[x, y] }) z TI TO .ellipsis f' := Heap.get?_push_of_some _ z5
    refine wpAny_bind (wpAny_bind (wpAny_setField_rec z6 (by simp) fun h7 z7 e7 => ?_))
    replace z7 : zo h7 z TI TO (rawInt h5.objs.size) f' := z7
    refine wpAny_setField_rec z7 (by simp) fun h8 z8 e8 => wpAny_pure ⟨_, rfl, ?_⟩
    replace z8 : zo h8 z TI TO (rawInt h5.objs.size) false := z8
    have up : ∀ {c : Addr} {o : Obj}, c ≠ z → (h5.push { cls := .type "tuple", data := .seq #[x, y] }).get? c = some o → h8.get? c = some o := fun n e => e8.extBut _ _ n (e7.extBut _ _ n e)
    have old : ∀ {c : Addr} {o : Obj}, c ≠ z → h5.get? c = some o → h8.get? c = some o := fun n e => up n (Heap.get?_push_of_some _ e)
    have got : IsPair h8 h5.objs.size x y := up lz.symm (Heap.get?_push_size _ rfl)
    have more : h8.objs.size = h5.objs.size + 1 := e8.1.trans (e7.1.trans (Heap.size_push ..))
    rw [sz] at z8 got more
    show Q (.ref h5.objs.size) _
    rw [sz]
    exact q h8 _ false (.inr ⟨_, rfl⟩) z8 ⟨x, y, old D.TOz o5⟩ (d1.at fun o e => old D.i1z e) (d2.at fun o e => old D.i2z e) got more fun c o n1 n2 n3 n4 e => old n1 (kk n2 n3 n4 (e1.extBut _ _ n1 (gk c o n1 e)))
/-- one of both has no item more -/
theorem zip_end {z TI TO i1 i2 l1 l2 : Addr} {k1 k2 : Nat} {xs ys : Array Value} {a b v : Value} {f : Bool} {Q : Fin → Shared → Prop} (calm : A.handled = none) (D : ZipApart z TI TO i1 i2 l1 l2) (hv : v = .none ∨ ∃ T : Addr, v = rawInt T)
    (hz : zo s.heap z TI TO v f) (pI : IsPair s.heap TI (.ref i1) (.ref i2)) (pO : IsPair s.heap TO a b) (t1 : s.heap.IsTupleIter i1 l1 k1) (t2 : s.heap.IsTupleIter i2 l2 k2) (s1 : s.heap.IsTuple l1 xs) (s2 : s.heap.IsTuple l2 ys) (no : xs[k1]? = none ∨ ys[k2]? = none)
    (q : ∀ h' e, Kept5 z TO i1 i2 s.heap h' → (∃ o, h'.get? e = some o ∧ o.cls = .type "StopIteration") → E (.ref e) { s with heap := h' }) :
    wpAny (model prog w) A (Builtin.«zip.__next__» { pos := [.ref z], kw := [] }) Q E s := by
  refine wpAny_bind (m := field (.ref z) 2) (wpAny_field hz rfl (x := .bool false) rfl ?_)
  refine wpAny_bind (m := field (.ref z) 3) (wpAny_field hz rfl (x := .ref TI) rfl (wpAny_bind (wpAny_seqItems pI rfl ?_)))
  refine wpAny_bind (m := Builtin.SmallTypes.ownedTupleIsFree (.ref z)) (zip_free hv hz fun free g f' hg gs => ?_)
  have gk : ∀ c o, c ≠ z → s.heap.get? c = some o → g.get? c = some o := gs.extBut
  have a1 := t1.extBut gs.extBut D.i1z
  have a2 := t2.extBut gs.extBut D.i2z
  have b1 := s1.extBut gs.extBut D.l1z
  have b2 := s2.extBut gs.extBut D.l2z
  have oO : IsPair g TO a b := gk _ _ D.TOz pO
  cases free with
  | false =>
    simp only [Bool.false_eq_true, if_false, ← Array.forIn_toList, List.forIn_cons, List.forIn_nil]
    cases gx : xs[k1]? with
    | none => exact wpAny_bind (wpAny_bind (wpAny_bind (wpAny_holding (wpAny_bind (m := Builtin.SmallTypes.nextOf (.ref i1)) (nextOf_tuple_end calm a1 b1 gx fun h2 e e2 he => q h2 e (fun c o n1 _ n3 _ y => e2 _ _ n3 (gk c o n1 y)) he)))))
    | some x =>
      have gy : ys[k2]? = none := no.resolve_left (by rw [gx]; simp)
      refine wpAny_bind (wpAny_bind (wpAny_bind (wpAny_holding (wpAny_bind (m := Builtin.SmallTypes.nextOf (.ref i1)) (nextOf_tuple_item a1 b1 gx fun h2 c1 e2 => wpAny_pure (wpAny_pure ?_))))))
      exact wpAny_bind (wpAny_bind (wpAny_holding (wpAny_bind (m := Builtin.SmallTypes.nextOf (.ref i2)) (nextOf_tuple_end calm (a2.extBut e2.extBut D.i12.symm) (b2.extBut e2.extBut D.l2i1) gy fun h3 e e3 he => q h3 e (fun c o n1 _ n3 n4 y => e3 _ _ n4 (e2.extBut _ _ n3 (gk c o n1 y))) he))))
  | true =>
    simp only [if_true, List.zipIdx_cons, List.zipIdx_nil, List.forIn_cons, List.forIn_nil]
    refine wpAny_bind (wpAny_rule (wpAny_bind (wpAny_field hg rfl (x := .ref TO) rfl (wpAny_bind (wpAny_setField_rec hg (by simp) fun h1 z1 e1 => ?_)))))
    replace z1 : zo h1 z TI TO .ellipsis f' := z1
    have notz : ∀ {h : Heap} {e : Addr} {o : Obj}, zo h z TI TO .ellipsis f' → h.get? e = some o → o.cls = .type "StopIteration" → e ≠ z := fun hz' he hc y => by
      rw [y, hz'] at he
      rw [← Option.some.inj he] at hc
      simp at hc
    cases gx : xs[k1]? with
    | none =>
      refine wpAny_bind (wpAny_bind (wpAny_bind (wpAny_onRaise (wpAny_bind (m := Builtin.SmallTypes.nextOf (.ref i1)) (nextOf_tuple_end calm (a1.extBut e1.extBut D.i1z) (b1.extBut e1.extBut D.l1z) gx fun h2 e e2 he => ?_)))))
      obtain ⟨o, ho, hc⟩ := he
      have z2 : zo h2 z TI TO .ellipsis f' := e2 _ _ D.i1z.symm z1
      exact wpAny_setField_rec z2 (by simp) fun h3 _ e3 => q h3 e (fun c o n1 _ n3 _ y => e3.extBut _ _ n1 (e2 _ _ n3 (e1.extBut _ _ n1 (gk c o n1 y)))) ⟨o, e3.extBut _ _ (notz z2 ho hc) ho, hc⟩
    | some x =>
      have gy : ys[k2]? = none := no.resolve_left (by rw [gx]; simp)
      refine wpAny_bind (wpAny_bind (wpAny_bind (wpAny_onRaise (wpAny_bind (m := Builtin.SmallTypes.nextOf (.ref i1)) (nextOf_tuple_item (a1.extBut e1.extBut D.i1z) (b1.extBut e1.extBut D.l1z) gx fun h2 c1 e2 => wpAny_pure ?_)))))
      have o2 : IsPair h2 TO a b := e2.extBut _ _ D.TOi1 (e1.extBut _ _ D.TOz oO)
      refine wpAny_bind (wpAny_seqItems o2 rfl (wpAny_bind (wpAny_updateSeq_pair o2 fun h3 o3 e3 => wpAny_bind (wpAny_letGo (wpAny_pure ?_)))))
      refine wpAny_bind (wpAny_bind (wpAny_onRaise (wpAny_bind (m := Builtin.SmallTypes.nextOf (.ref i2)) (nextOf_tuple_end calm (((a2.extBut e1.extBut D.i2z).extBut e2.extBut D.i12.symm).extBut e3.extBut D.TOi2.symm) (((b2.extBut e1.extBut D.l2z).extBut e2.extBut D.l2i1).extBut e3.extBut D.l2TO) gy fun h4 e e4 he => ?_))))
      obtain ⟨o, ho, hc⟩ := he
      have z4 : zo h4 z TI TO .ellipsis f' := e4 _ _ D.i2z.symm (e3.extBut _ _ D.TOz.symm (e2.extBut _ _ D.i1z.symm z1))
      exact wpAny_setField_rec z4 (by simp) fun h5 _ e5 => q h5 e (fun c o n1 n2 n3 n4 y => e5.extBut _ _ n1 (e4 _ _ n4 (e3.extBut _ _ n2 (e2.extBut _ _ n3 (e1.extBut _ _ n1 (gk c o n1 y)))))) ⟨o, e5.extBut _ _ (notz z4 ho hc) ho, hc⟩
/-- how a zip over two tuples stands at its i-th turn, whatever became of its pairs -/
structure ZSt (a b z TI TO i1 i2 : Addr) (i : Nat) (h : Heap) : Prop where
  ob : ∃ v f, (v = .none ∨ ∃ T : Addr, v = rawInt T) ∧ zo h z TI TO v f
  pI : IsPair h TI (.ref i1) (.ref i2)
  pO : ∃ c d, IsPair h TO c d
  t1 : h.IsTupleIter i1 a i
  t2 : h.IsTupleIter i2 b i
theorem five {z TI TO i1 i2 c : Addr} (h : c ∈ [z, TI, TO, i1, i2]) : c = z ∨ c = TI ∨ c = TO ∨ c = i1 ∨ c = i2 := by
  simp only [List.mem_cons, List.not_mem_nil, or_false] at h
  exact h
theorem ZSt.has {a b z TI TO i1 i2 c : Addr} {i : Nat} {h : Heap} (st : ZSt a b z TI TO i1 i2 i h) (hc : c ∈ [z, TI, TO, i1, i2]) : ∃ o, h.get? c = some o ∧ ∀ v, o.data ≠ .cell v := by
  obtain ⟨v, f, _, ho⟩ := st.ob
  obtain ⟨c1, d1, hO⟩ := st.pO
  obtain ⟨o1, e1, _, q1⟩ := st.t1
  obtain ⟨o2, e2, _, q2⟩ := st.t2
  rcases five hc with rfl | rfl | rfl | rfl | rfl
  · exact ⟨_, ho, fun u y => by cases y⟩
  · exact ⟨_, st.pI, fun u y => by cases y⟩
  · exact ⟨_, hO, fun u y => by cases y⟩
  · exact ⟨o1, e1, fun u y => by rw [q1] at y; cases y⟩
  · exact ⟨o2, e2, fun u y => by rw [q2] at y; cases y⟩
theorem turn_zipN {P : Program} {w : World} {K : PySem.W.Frag} {x : Str} {xp : Pos} {a b z TI TO i1 i2 : Addr} (D : ZipApart z TI TO i1 i2 a b) : Turn P w K (.Name x xp) (ItzT K a b) [z, TI, TO, i1, i2] z (ZSt a b z TI TO i1 i2) where
  mem := List.mem_cons_self
  obj := fun i h st c hc => st.has hc
  keep := fun i h h' st k => by
    obtain ⟨v, f, hv, ho⟩ := st.ob
    obtain ⟨c1, d1, hO⟩ := st.pO
    exact ⟨⟨v, f, hv, k z (by simp) _ ho⟩, k TI (by simp) _ st.pI, ⟨c1, d1, k TO (by simp) _ hO⟩, st.t1.at fun o y => k i1 (by simp) o y, st.t2.at fun o y => k i2 (by simp) o y⟩
  item := by
    rintro X rfl rfl rfl calm i pins s σ H E I young st ⟨xs, ys, x1, y1, sx, sy, ex, ey⟩
    obtain ⟨v, f, hv, ho⟩ := st.ob
    obtain ⟨c1, d1, hO⟩ := st.pO
    obtain ⟨us, ru, pu, _⟩ := I.tuple sx
    obtain ⟨ws, rw', pw, _⟩ := I.tuple sy
    obtain ⟨u, hu, ru1⟩ := ru.get ex
    obtain ⟨w1, hw, rw1⟩ := rw'.get ey
    have inside : ∀ c, c ∈ [z, TI, TO, i1, i2] → c ≠ s.heap.objs.size := fun c hc => by
      obtain ⟨o, e, _⟩ := st.has hc
      exact Nat.ne_of_lt (Heap.lt_size e)
    unfold pyNext
    have ty : s.TypeIs (.ref z) "zip" := ⟨_, ho, rfl⟩
    refine wpAny_bind (wpAny_attempt (wpAny_callSpecial?_slot (name := "__next__") ty F.slot_zip_next (wpAny_call_entry F.slot_zip_next ty F.entry_zip_next
      (zip_item D hv ho st.pI hO st.t1 st.t2 pu pw (x := u) (y := w1) (by simpa using hu) (by simpa using hw) fun h' v' f' hv' ho' hO' t1' t2' pr _ kk => wpAny_pure ⟨_, rfl, wpAny_pure ?_⟩) (F.args_zip_next_1 _))))
    have J : Inv X pins σ (upd H s.heap.objs.size (.tup [x1, y1])) { s with heap := h' } :=
      I.turnedNew (t' := s.toks) (ch := [z, TI, TO, i1, i2]) (fun c o n e => kk c o (fun y => n (by simp [y])) (fun y => n (by simp [y])) (fun y => n (by simp [y])) (fun y => n (by simp [y])) e) young (Nat.le_refl _)
        ⟨by show 2 ≤ sizeLine; decide, [u, w1], .cons ru1 (.cons rw1 .nil), ⟨_, pr, rfl, _, rfl⟩⟩
    refine ⟨.ref s.heap.objs.size, _, J, rfl, ⟨_, x1, y1, rfl, I.hok.fresh (Nat.le_refl _), rfl, fun l hl => ?_, fun l hl => ?_⟩, ⟨⟨v', f', hv', ho'⟩, kk _ _ D.TIz D.TITO D.TIi1 D.TIi2 st.pI, hO', t1', t2'⟩, fun c hc => (upd_ne (inside c hc)).trans (young c hc).1⟩
    · rw [I.tuple_inj hl sx]
      exact ex
    · rw [I.tuple_inj hl sy]
      exact ey
  done := by
    rintro X rfl rfl rfl calm i pins s σ H E I young st ⟨xs, ys, sx, sy, no⟩
    obtain ⟨v, f, hv, ho⟩ := st.ob
    obtain ⟨c1, d1, hO⟩ := st.pO
    obtain ⟨us, ru, pu, _⟩ := I.tuple sx
    obtain ⟨ws, rw', pw, _⟩ := I.tuple sy
    have no' : us.toArray[i]? = none ∨ ws.toArray[i]? = none := by
      have q1 := ru.length
      have q2 := rw'.length
      rcases no with y | y
      · left; simp; omega
      · right; simp; omega
    have ty : s.TypeIs (.ref z) "zip" := ⟨_, ho, rfl⟩
    unfold pyNext
    refine wpAny_bind (wpAny_attempt (wpAny_callSpecial?_slot (name := "__next__") ty F.slot_zip_next (wpAny_call_entry F.slot_zip_next ty F.entry_zip_next
      (zip_end (I.ok.hd calm) D hv ho st.pI hO st.t1 st.t2 pu pw no' fun h' e kk he => ?_) (F.args_zip_next_1 _))))
    obtain ⟨o, g1, g2⟩ := he
    refine wpAny_bind (wpAny_isInstance (T := "StopIteration") (b := true) ⟨o, g1, g2⟩ isSubtype_stop (wpAny_pure ⟨rfl, ?_⟩))
    exact I.turnedL (t' := s.toks) (ch := [z, TI, TO, i1, i2]) (fun c o n e => kk c o (fun y => n (by simp [y])) (fun y => n (by simp [y])) (fun y => n (by simp [y])) (fun y => n (by simp [y])) e) young
  self := fun Ar n sh Qv Ev st h => by
    obtain ⟨v, f, _, ho⟩ := st.ob
    have ty : sh.TypeIs (.ref z) "zip" := ⟨_, ho, rfl⟩
    exact wpAny_pyIter_slot ty F.slot_zip_iter (wpAny_call_entry F.slot_zip_iter ty F.entry_zip_iter (wpAny_pure ⟨_, rfl, "zip", _, ty, F.slot_zip_next.lookup, h⟩) (F.args_zip_iter_1 _))
def iZipN (K : PySem.W.Frag) (ta : TA) : TI := fun σ H R => ta σ H fun vs H1 => ∃ a b xs ys, vs = [.ref a, .ref b] ∧ SqT K H1 a xs ∧ SqT K H1 b ys ∧ R (ItzT K a b) H1
/-- for x in zip(s, t), s and t tuples -/
theorem pi_zipN {X : Cx} {K : PySem.W.Frag} {e e2 : Expr} {ta : TA} {p pos xp : Pos} {x : Str} (hK : X.K = K) (hg : Gl X "zip") (hm : X.mg "zip" = none) (ha : PA X [e, e2] ta)
    (st : starEach [e, e2] X.env = (false, eval e X.env) :: starEach [e2] X.env := by rfl) (pl : (backTo pos (starEach [e2] X.env)).any (·.1) = false := by rfl) : PI X (.Name x xp) (.Call (.Name "zip" p) [e, e2] [] pos) (iZipN K ta) := by
  subst hK
  constructor
  intro pins s σ H R I wish
  refine Call_ (ld_blt I hg hm PyProof.Rows.boot_zip (PyProof.Rows.callWith_type1 (thn (ha.run pos pins s σ H _ I wish) ?_) st pl))
  rintro us s1 ⟨vs, H1, I1, rel, a, b, xs, ys, rfl, sx, sy, q⟩
  cases rel with
  | cons r0 r1 =>
    cases r1 with
    | cons r1 r2 =>
      cases r2
      cases r0
      cases r1
      obtain ⟨us, _, pu, _⟩ := I1.tuple sx
      obtain ⟨ws, _, pw, _⟩ := I1.tuple sy
      have la : a < s1.heap.objs.size := by
        obtain ⟨_, e, _⟩ := id pu
        exact Heap.lt_size e
      have lb : b < s1.heap.objs.size := by
        obtain ⟨_, e, _⟩ := id pw
        exact Heap.lt_size e
      refine call_zipT (show s1.heap.IsTuple a us.toArray from pu) (show s1.heap.IsTuple b ws.toArray from pw) fun h' hz hI hO t1 t2 _ hk => ?_
      have D : ZipApart (s1.heap.objs.size + 4) (s1.heap.objs.size + 2) (s1.heap.objs.size + 3) s1.heap.objs.size (s1.heap.objs.size + 1) a b := PySem.W.ktu_apart s1.heap.objs.size a b la lb
      have T := turn_zipN (P := X.prog) (w := X.w) (K := X.K) (x := x) (xp := xp) D
      have st : ZSt a b (s1.heap.objs.size + 4) (s1.heap.objs.size + 2) (s1.heap.objs.size + 3) s1.heap.objs.size (s1.heap.objs.size + 1) 0 h' := ⟨⟨.none, false, .inl rfl, hz⟩, hI, ⟨_, _, hO⟩, t1, t2⟩
      refine T.self _ 0 _ _ _ st ⟨_, _, _, _, H1, rfl, I1.kept (t' := s1.toks) hk, T, st, fun c hc => ?_, q⟩
      have le : s1.heap.objs.size ≤ c := by
        rcases five hc with y | y | y | y | y <;> (rw [y]; first | exact Nat.le_add_right _ _ | exact Nat.le_refl _)
      exact I1.fpOk le (I1.hok.fresh le)
end
end PDZ
namespace PD
open PySem PySem.Spec PyProof.Rows L2 PDZ
theorem it_zipN {W : Wd} {δ : DS} {P : List D → Prop} {ta : TA} (h : EvA W ta δ fun xs => ∃ ds es, xs = [.tup ds, .tup es] ∧ P (zipD ds es)) : IterD W (iZipN W.K ta) δ P := fun M σ H p R q => h M σ H p _ fun vs ds H1 g1 k1 r1 h1 => by
  obtain ⟨ds, es, rfl, hP⟩ := h1
  cases r1 with
  | cons r1 r2 =>
    cases r2 with
    | cons r2 r3 =>
      cases r3
      cases r1 with
      | tup hs hr =>
        cases r2 with
        | tup hs' hr' => exact ⟨_, _, _, _, rfl, hs, hs', q _ H1 _ g1 k1 hP (src_zipT (p.wf.next g1 k1) hs hr hs' hr')⟩
end PD
namespace PD
open PySem PySem.Spec PyProof.Rows L2
open PDX PDI PDT PDZ
def isPos (x : D) : Bool := isFr x && decide (0 < topD x)
/-- the rows' number and lengths -/
def shp (m : Nat) (l : Nat) : D → Bool
  | .tup rows => decide ((rows.length : Int) = l) && rows.all fun r => decide (r.len = m)
  | _ => false
def numP : D → Bool
  | .tup [u, x] => isFr x && (!u.isNon || decide (topD x = 0))
  | _ => false
def valP : D → Bool
  | .tup [u, x] => u.isNon || isPos x
  | _ => false
/-- cells and what stands beside them, row by row -/
def besD (xs rows : List D) : List D := (List.zipWith (fun e r => zipD (items e) (items r)) xs rows).flatten
def areN (m : Nat) (xs : List D) (x : D) : Bool := shp m xs.length x && (besD xs (items x)).all numP
def areV (m : Nat) (xs : List D) (x : D) : Bool := areN m xs x && (besD xs (items x)).all valP
theorem len_tup {r : D} {m : Nat} (h : r.len = m) : ∃ cs, r = .tup cs ∧ cs.length = m := by
  cases r with
  | tup cs =>
    have h : (cs.length : Int) = m := h
    exact ⟨cs, rfl, by omega⟩
  | _ => exact absurd (show (-1 : Int) = m from h) (by omega)
structure Shp (m : Nat) (xs rows : List D) : Prop where
  l : rows.length = xs.length
  r : ∀ e ∈ rows, ∃ cs, e = .tup cs ∧ cs.length = m
theorem shp_of {m : Nat} {xs : List D} {x : D} (h : shp m xs.length x = true) : ∃ rows, x = .tup rows ∧ Shp m xs rows := by
  cases x with
  | tup rows =>
    simp only [shp, Bool.and_eq_true, decide_eq_true_eq, List.all_eq_true] at h
    exact ⟨rows, rfl, by have := h.1; omega, fun e he => len_tup (h.2 e he)⟩
  | _ => cases h
theorem Shp.at {m : Nat} {xs rows : List D} (s : Shp m xs rows) {i : Nat} {e : D} (h : rows[i]? = some e) : ∃ cs, e = .tup cs ∧ cs.length = m := s.r e (List.mem_of_getElem? h)
theorem mem_bes {p : D} : ∀ {xs rows : List D}, p ∈ besD xs rows → ∃ (i j : Nat) (e r u y : D), xs[i]? = some e ∧ rows[i]? = some r ∧ (items e)[j]? = some u ∧ (items r)[j]? = some y ∧ p = .tup [u, y]
  | [], _, h => by simp [besD] at h
  | _ :: _, [], h => by simp [besD] at h
  | e :: xs, r :: rows, h => by
    unfold besD at h
    rw [List.zipWith_cons_cons, List.flatten_cons] at h
    rcases List.mem_append.mp h with h | h
    · obtain ⟨j, hj⟩ := List.mem_iff_getElem?.mp h
      obtain ⟨u, y, h1, h2, rfl⟩ := zipD_get hj
      exact ⟨0, j, e, r, u, y, rfl, rfl, h1, h2, rfl⟩
    · obtain ⟨i, j, e', r', u, y, h1, h2, h3, h4, h5⟩ := mem_bes (xs := xs) (rows := rows) h
      exact ⟨i + 1, j, e', r', u, y, h1, h2, h3, h4, h5⟩
theorem bes_all {p : D → Bool} {xs rows : List D} (h : ∀ (i j : Nat) (e r u y : D), xs[i]? = some e → rows[i]? = some r → (items e)[j]? = some u → (items r)[j]? = some y → p (.tup [u, y]) = true) : (besD xs rows).all p = true := by
  rw [List.all_eq_true]
  intro q hq
  obtain ⟨i, j, e, r, u, y, h1, h2, h3, h4, rfl⟩ := mem_bes hq
  exact h i j e r u y h1 h2 h3 h4
theorem bes_take {xs rows : List D} {i : Nat} {e r : D} (h1 : xs[i]? = some e) (h2 : rows[i]? = some r) : besD (xs.take (i + 1)) (rows.take (i + 1)) = besD (xs.take i) (rows.take i) ++ zipD (items e) (items r) := by
  unfold besD
  rw [← take_snoc h1, ← take_snoc h2, List.zipWith_append (by
    have a := (List.getElem?_eq_some_iff.mp h1).1
    have b := (List.getElem?_eq_some_iff.mp h2).1
    rw [List.length_take, List.length_take]
    omega), List.flatten_append]
  simp
theorem zip_take {ds es : List D} {j : Nat} {d : D} (h : (zipD ds es)[j]? = some d) : (zipD ds es).take (j + 1) = (zipD ds es).take j ++ [d] := (take_snoc h).symm
theorem bes_len {m : Nat} {xs rows : List D} (hm : m ≤ 10) (hx : ∀ e ∈ xs, ∃ cs, e = .tup cs ∧ cs.length = m) : (besD xs rows).length ≤ xs.length * 10 := by
  induction xs generalizing rows with
  | nil => simp [besD]
  | cons e xs ih =>
    cases rows with
    | nil => simp [besD]
    | cons r rows =>
      obtain ⟨cs, rfl, hc⟩ := hx e List.mem_cons_self
      have h1 := ih (rows := rows) fun y hy => hx y (List.mem_cons_of_mem _ hy)
      unfold besD at h1 ⊢
      rw [List.zipWith_cons_cons, List.flatten_cons, List.length_append, List.length_cons]
      have h2 : (zipD (items (.tup cs)) (items r)).length ≤ cs.length := by
        rw [zipD_len2]
        exact Nat.min_le_left _ _
      omega
theorem Grd.tup {n : Int} {m : Nat} {xs : List D} (g : Grd n m xs) : ∀ e ∈ xs, ∃ cs, e = .tup cs ∧ cs.length = m := fun e he => by
  obtain ⟨cs, h1, h2, _⟩ := g.row e he
  exact ⟨cs, h1, h2⟩
theorem jd_fr (K : PySem.W.Frag) (p : Fr) : Jd K (fr p) := by simp only [Jd, JdA, and_self]
end PD
namespace PD
open PySem PySem.Spec PyProof.Rows L2
open PDX PDI PDT PDZ
/-- numbers that are there, of some size -/
def NumS (k : Nat) (rows : List D) : Prop := ∀ r ∈ rows, ∀ y ∈ items r, ∃ q : Fr, y = fr q ∧ IsF q ∧ Sz k q
/-- judged, and no int within is great -/
structure Js (K : PySem.W.Frag) (x : D) : Prop where
  j : Jd K x
  s : x.small = true
theorem Js.ty {K : PySem.W.Frag} {x : D} (h : Js K x) : Jd1 K x := jd_ty h.j
theorem smalls_of {xs : List D} (h : ∀ x ∈ xs, x.small = true) : D.smalls xs = true := by
  induction xs with
  | nil => simp only [D.smalls]
  | cons y ys ih =>
    simp only [D.smalls, Bool.and_eq_true]
    exact ⟨h y List.mem_cons_self, ih fun x hx => h x (List.mem_cons_of_mem _ hx)⟩
theorem Js.tup {K : PySem.W.Frag} {xs : List D} (h : ∀ x ∈ xs, Js K x) : Js K (.tup xs) := ⟨by
    simp only [Jd]
    exact jdA_of fun x hx => (h x hx).j, by
    simp only [D.small]
    exact smalls_of fun x hx => (h x hx).s⟩
theorem Js.fr (K : PySem.W.Frag) {p : Fr} (h : Sz 8000 p) : Js K (fr p) := ⟨jd_fr K p, fr_small h⟩
/-- numbers for a grid, of some size -/
structure Nums (m k : Nat) (xs rows : List D) : Prop where
  s : Shp m xs rows
  n : NumS k rows
  p : (besD xs rows).all numP = true
theorem Nums.js {K : PySem.W.Frag} {m k : Nat} {xs rows : List D} (h : Nums m k xs rows) (hk : k ≤ 8000) : Js K (.tup rows) := .tup fun r hr => by
  obtain ⟨cs, rfl, _⟩ := h.s.r r hr
  refine .tup fun y hy => ?_
  obtain ⟨q, rfl, _, sq⟩ := h.n _ hr y hy
  exact .fr K (sq.mono hk)
theorem Nums.len {m k : Nat} {xs rows : List D} {n : Int} (g : Grd n m xs) (h : Nums m k xs rows) : (D.tup rows).len ≤ 1000 := by
  have := h.s.l
  have := g.l10
  show (rows.length : Int) ≤ 1000
  omega
theorem Nums.areN {m k : Nat} {xs rows : List D} (h : Nums m k xs rows) : areN m xs (.tup rows) = true := by
  unfold PD.areN
  rw [show (besD xs (items (.tup rows))).all numP = true from h.p, Bool.and_true]
  show (decide ((rows.length : Int) = xs.length) && rows.all fun r => decide (r.len = (m : Int))) = true
  rw [decide_eq_true (show (rows.length : Int) = xs.length by have := h.s.l; omega), Bool.true_and, List.all_eq_true]
  intro r hr
  obtain ⟨cs, rfl, hc⟩ := h.s.r r hr
  exact decide_eq_true (show (cs.length : Int) = m by omega)
theorem Nums.fine {m k : Nat} {xs rows : List D} (h : Nums m k xs rows) : (D.tup rows).fine = true := lays_fine (n := 3) (lays_tup fun r hr => by
  obtain ⟨cs, rfl, _⟩ := h.s.r r hr
  refine lays_tup fun y hy => ?_
  obtain ⟨q, rfl, _⟩ := h.n _ hr y hy
  rfl) (by decide)
def Has (ω : Om) (p : Addr) (es : List D) : Prop := (p, es) ∈ ω ∧ ∀ ds, (p, ds) ∈ ω → ds = es
theorem Has.cons {ω : Om} {p q : Addr} {es ds : List D} (h : Has ω p es) (n : p ≠ q) : Has ((q, ds) :: ω) p es := ⟨List.mem_cons_of_mem _ h.1, fun x hx => by
  rcases List.mem_cons.mp hx with z | z
  · cases z
    exact absurd rfl n
  · exact h.2 x z⟩
theorem Has.new {ω : Om} {q : Addr} {ds : List D} (n : ∀ x ∈ ω, x.1 ≠ q) : Has ((q, ds) :: ω) q ds := ⟨List.mem_cons_self, fun x hx => by
  rcases List.mem_cons.mp hx with z | z
  · cases z
    rfl
  · exact absurd rfl (n _ z)⟩
theorem Has.put {ω : Om} {p : Addr} {es : List D} {f : List D → List D} (h : Has ω p es) : Has (putO ω p f) p (f es) := ⟨List.mem_map.mpr ⟨(p, es), h.1, by rw [if_pos rfl]⟩, fun x hx => by
  obtain ⟨ds, h1, rfl⟩ := mem_putO hx
  rw [if_pos rfl, h.2 ds h1]⟩
theorem Has.off {ω : Om} {p q : Addr} {es : List D} {f : List D → List D} (h : Has ω p es) (n : p ≠ q) : Has (putO ω q f) p es := ⟨List.mem_map.mpr ⟨(p, es), h.1, by rw [if_neg n]⟩, fun x hx => by
  obtain ⟨ds, h1, rfl⟩ := mem_putO hx
  rw [if_neg n]
  exact h.2 ds h1⟩
/-- xs.append(e), e reading lists of one's own -/
theorem so_appL {W : Wd} {Wx : WX} {X : XV → DS → Prop} {ω : Om} {δ : DS} {N : Om → DS → Prop} {R : D → Prop} {B C : Om → DS → Prop} {te : TE} {i : Nat} {a : Addr} {ds : List D} (hi : δ[i]? = some (some (.obj a))) (hm : Has ω a ds) (hu : ds.length < 100000)
    (h : EvL W te ω δ fun d => d.nref = true ∧ N (putO ω a fun es => es ++ [d]) δ) : SO W Wx (tDrop (tBM W.K "list" rAppend (tVar i) (tCons te tNil))) ω δ N R B C X := fun M0 H0 M1 L1 M σ H E d0 p ow e o => by
  obtain ⟨v, s1, r1⟩ := p.sl.get i _ hi
  cases r1
  obtain ⟨hM, n0, ns, nb, vs, ha, rr⟩ := ow a ds hm.1
  obtain ⟨p2, l2⟩ := own_lend p ow
  refine ⟨_, s1, .inl ⟨rfl, _, SqL.of ha⟩, h _ σ H p2 l2 _ fun u d H1 g1 k1 r1 h1 => ?_⟩
  have ha1 := k1 a _ ns ha
  refine ⟨a, vs, u, rfl, rfl, ha1, ?_, ?_⟩
  · rw [rr.length]
    exact Nat.lt_of_lt_of_le hu (by decide)
  · have one : ∀ es, (a, es) ∈ ω → Reps W M H1 (vs ++ [u]) (es ++ [d]) := fun es m => by
      obtain ⟨_, _, _, _, vs', q1, q2⟩ := ow a es m
      rw [ha] at q1
      cases q1
      exact (q2.keep p.wf k1).append (.cons (r1.nref h1.1) .nil)
    obtain ⟨x1, x2, x3⟩ := own_upd (f := fun es => es ++ [d]) (p.next g1 k1) (ow.keep p.wf k1) (e.next p.wf k1) d0 hm.1 one
    exact o.nx M _ _ _ _ x1 x2 x3 h1.2
/-- the first rows, filled -/
structure FilL (k : Nat) (cs line : List D) : Prop where
  l : line.length = k
  c : ∀ (j : Nat) (u y : D), cs[j]? = some u → line[j]? = some y → ∃ q : Fr, y = fr q ∧ IsF q ∧ Sz 134 q ∧ numP (.tup [u, y]) = true
structure FilR (k : Nat) (xs acc : List D) : Prop where
  l : acc.length = k
  r : ∀ (i : Nat) (e r : D), xs[i]? = some e → acc[i]? = some r → ∃ ds, r = .tup ds ∧ FilL (items e).length (items e) ds
theorem FilL.nref {k : Nat} {cs line : List D} (h : FilL k cs line) (hl : k ≤ cs.length) : (D.tup line).nref = true := nref_tup fun y hy => by
  obtain ⟨j, hj⟩ := List.mem_iff_getElem?.mp hy
  have := (List.getElem?_eq_some_iff.mp hj).1
  have := h.l
  obtain ⟨q, rfl, _⟩ := h.c j _ y (List.getElem?_eq_getElem (by omega)) hj
  exact nref_fr q
theorem FilR.nums {n : Int} {m : Nat} {xs acc : List D} (g : Grd n m xs) (h : FilR xs.length xs acc) : Nums m 134 xs acc := by
  have at' : ∀ {i : Nat} {r : D}, acc[i]? = some r → ∃ cs ds, xs[i]? = some (.tup cs) ∧ r = .tup ds ∧ cs.length = m ∧ FilL cs.length cs ds := fun {i r} hi => by
    have l := (List.getElem?_eq_some_iff.mp hi).1
    have := h.l
    obtain ⟨cs, e, hc, _⟩ := g.at' (i := i) (by omega)
    obtain ⟨ds, rfl, hd⟩ := h.r i _ r e hi
    exact ⟨cs, ds, e, rfl, hc, hd⟩
  refine ⟨⟨h.l, fun r hr => ?_⟩, fun r hr y hy => ?_, bes_all fun i j e r u y e1 e2 e3 e4 => ?_⟩
  · obtain ⟨i, hi⟩ := List.mem_iff_getElem?.mp hr
    obtain ⟨cs, ds, _, rfl, hc, hd⟩ := at' hi
    exact ⟨ds, rfl, by rw [hd.l]; exact hc⟩
  · obtain ⟨i, hi⟩ := List.mem_iff_getElem?.mp hr
    obtain ⟨cs, ds, _, rfl, hc, hd⟩ := at' hi
    obtain ⟨j, hj⟩ := List.mem_iff_getElem?.mp hy
    have hj : ds[j]? = some y := hj
    have := (List.getElem?_eq_some_iff.mp hj).1
    have := hd.l
    obtain ⟨q, rfl, iq, sq, _⟩ := hd.c j _ y (List.getElem?_eq_getElem (by omega)) hj
    exact ⟨q, rfl, iq, sq⟩
  · obtain ⟨cs, ds, h1, rfl, hc, hd⟩ := at' e2
    rw [e1] at h1
    cases h1
    obtain ⟨q, rfl, _, _, np⟩ := hd.c j u y e3 e4
    exact np
end PD
namespace PD
open PySem PySem.Spec PyProof.Rows L2
open PDX PDI PDT
section
variable {X : Cx} {K : PySem.W.Frag} {w : World}
theorem ix_kdK (h : X.K = K) (hw : X.w = w) : IxR X (rIxD K w) := by subst h; subst hw; exact ix_kdict
/-- at p a dict of the module, its keys texts -/
def KDic (K : PySem.W.Frag) (w : World) (p : Addr) : Prop := (∃ es n, K.lookup p = some ⟨.type "dict", none, .dict es n, #[]⟩ ∧ PySem.W.KeysLit w.params es.toList) ∧ (p == sysModules) = false
def tKGet (K : PySem.W.Frag) (w : World) (td ty : TE) : TE := fun σ H Q => td σ H fun x H1 => ∃ p, x = .ref p ∧ KDic K w p ∧ ty σ H1 fun y H2 => ∃ (z : Str) (r : Option Value) (v : V), y = .str z ∧ PySem.W.nsIn K p z = some r ∧ RelV v (r.getD .none) ∧ Q v H2
/-- what a dict of the module is: asked for a text's place -/
theorem kget_run {A : Around} {p : Addr} {z : Str} {u : Value} {r : Option Value} {es : Array DictEntry} {n : Nat} {pins : List (Addr × Obj)} {σ : L2.St} {H : Hp} {s : Shared} {E : Value → Shared → Prop} {Q : Value → Shared → Prop} (I : L2.Inv X pins σ H s)
    (hl : X.K.lookup p = some ⟨.type "dict", none, .dict es n, #[]⟩) (hk : PySem.W.KeysLit X.w.params es.toList) (lo : (p == sysModules) = false) (e : PySem.W.nsIn X.K p z = some r) (ry : RelV (.str z) u)
    (h : ∀ s', L2.Inv X pins σ H s' → Q (r.getD .none) s') : wpAny (model X.prog X.w) A (call (.builtin "dict.get") [.ref p, u]) Q E s := by
  obtain ⟨t, rfl⟩ := (show ∃ t, u = Value.str z t from ry)
  have hm := PySem.W.mapOf_K (prog := X.prog) (w := X.w) I.kIn hl hk
  have hf := PySem.W.find_K hl e
  refine call_meetsIn PySem.F.slot_dict_get hm.typeIs PySem.F.entry_dict_get (PySem.F.args_dict_get_2 _ _) (meets_dict_get (strKind X.prog X.w) p (strKind_is X.prog X.w z t) lo) ⟨_, hm, ?_⟩
  rw [hf]
  exact h _ (I.tok _)
theorem pe_kgetK {o e : Expr} {apos cpos : Pos} {td ty : TE} (h : X.K = K) (hw : X.w = w) (ho : PE X o td) (he : PE X e ty) (m : M1 X o "get" apos e cpos) : PE X (.Call (.Attribute o "get" apos) [e] [] cpos) (tKGet K w td ty) := by
  subst h
  subst hw
  refine ⟨fun pins s σ H Q I wish => ?_⟩
  refine wpAny_Call_method m.base m.few m.line PySem.F.plainAttrs_dict PySem.F.slot_dict_get PySem.F.type_dict_get ?_
  -- the dict's place is known before its key is looked at: it stands in the written part
  refine thn (ho.run pins s σ H _ I wish) fun u s1 ⟨x, H1, I1, rx, p, ex, kd, q1⟩ => ?_
  subst ex
  obtain rfl : u = Value.ref p := rx
  obtain ⟨⟨es, n, hl, hk⟩, lo⟩ := kd
  refine ⟨(PySem.W.mapOf_K (prog := X.prog) (w := X.w) I1.kIn hl hk).typeIs, fun b e => ⟨_, I1.kIn p _ hl |> fun z => by cases e; exact z, rfl⟩, ?_⟩
  rw [m.trees]
  refine Calls.callWith_builtin rfl (Calls.evalArgs_plain (Calls.spliced_cons (thn (he.run pins s1 σ H1 _ I1 q1) fun iv s2 got => Calls.spliced_nil ?_)))
  obtain ⟨y, H2, I2, ry, z, r, v, ey, en, rv, q2⟩ := got
  subst ey
  exact kget_run I2 hl hk lo en ry fun s3 I3 => ⟨v, H2, I3, rv, q2⟩
theorem call_maxTK (h : X.K = K) (hc : X.calm = true) (hu : X.A.units + 64 < cLine) : CallR X (.builtin "max") (fun xs H Q => ∃ (a : Addr) (n : Int) (ns : List Int), xs = [.ref a] ∧ SqT K H a ((n :: ns).map V.int) ∧ Q (.int (ns.foldl max n)) H) := by
  subst h
  intro pins s σ H vs us Q I r wish
  obtain ⟨a, n, ns, rfl, hs, q⟩ := wish
  obtain ⟨its, rv, it, _⟩ := I.tuple hs
  rw [Vals.ref1 r]
  have dp : ∀ l : List Int, DpAll X.K H (l.map V.int) (l.map PyData.int) := fun l => by
    induction l with
    | nil => exact .nil
    | cons i l ih => exact .cons (.int i) ih
  obtain ⟨as, rd⟩ := Dp.readsAll I _ _ _ (dp (n :: ns)) rv
  have flat : ∀ l : List Int, PyData.depthAll (l.map PyData.int) = 0 := fun l => by
    induction l with
    | nil => rfl
    | cons i l ih => rw [List.map_cons, PyData.depthAll, ih]; rfl
  refine PySem.W.max_tuple_data (x := .int n) (xs := ns.map PyData.int) (I.ok.hd hc) it rd ⟨fun x hx y hy => ?_, fun x hx z => ?_⟩ ?_ fun i v h' tk bs hv rv' hk => ?_
  · obtain ⟨i, _, rfl⟩ := List.mem_map.mp (show x ∈ (n :: ns).map PyData.int from hx)
    obtain ⟨j, _, rfl⟩ := List.mem_map.mp (show y ∈ (n :: ns).map PyData.int from hy)
    rfl
  · obtain ⟨i, _, rfl⟩ := List.mem_map.mp (show x ∈ (n :: ns).map PyData.int from hx)
    cases z
  · have := flat (n :: ns)
    rw [show (PyData.int n :: ns.map PyData.int) = (n :: ns).map PyData.int from rfl, this]
    omega
  · rw [PySem.W.maxD_ints] at rv'
    cases rv'
    exact ⟨.int _, H, I.kept hk, ⟨_, rfl⟩, q⟩
end
/-- entries of texts and whole numbers -/
def KEs (P : Params) : List DictEntry → List (Str × Int) → Prop
  | [], [] => True
  | e :: r, (x, i) :: q => (∃ t, e.key = .str x t) ∧ e.hash = PyData.keyHash P x ∧ (∃ t, e.val = .int i t) ∧ KEs P r q
  | _, _ => False
structure KDi (K : PySem.W.Frag) (w : World) (p : Addr) (kvs : List (Str × Int)) : Prop where
  ex : ∃ es n, K.lookup p = some ⟨.type "dict", none, .dict es n, #[]⟩ ∧ KEs w.params es.toList kvs
  lo : (p == sysModules) = false
theorem kes_lit {P : Params} : ∀ {l : List DictEntry} {kvs : List (Str × Int)}, KEs P l kvs → PySem.W.KeysLit P l
  | [], [], _ => trivial
  | _ :: _, (_, _) :: _, ⟨⟨t, e⟩, h, _, r⟩ => ⟨⟨_, t, e, h⟩, kes_lit r⟩
  | [], _ :: _, h => h.elim
  | _ :: _, [], h => h.elim
def optI : Option Int → D
  | none => .non
  | some i => .int i
theorem kes_find {P : Params} (z : Str) : ∀ {l : List DictEntry} {kvs : List (Str × Int)}, KEs P l kvs → (l.find? (·.key.isStr z) = none ∧ kvs.lookup z = none) ∨ ∃ e i t, l.find? (·.key.isStr z) = some e ∧ e.val = .int i t ∧ kvs.lookup z = some i
  | [], [], _ => .inl ⟨rfl, rfl⟩
  | e :: l, (x, i) :: q, ⟨⟨t, ek⟩, _, ⟨t2, ev⟩, r⟩ => by
    by_cases hz : z = x
    · subst hz
      refine .inr ⟨e, i, t2, ?_, ev, ?_⟩
      · rw [List.find?_cons, ek]
        have : (Value.str z t).isStr z = true := by simp [Value.isStr]
        rw [this]
      · simp [List.lookup]
    · have h1 : e.key.isStr z = false := by
        rw [ek]
        simpa [Value.isStr] using fun c => hz c.symm
      have h2 : (z == x) = false := by simpa using hz
      rcases kes_find z r with ⟨a, b⟩ | ⟨e', i', t', a, b, c⟩
      · exact .inl ⟨by rw [List.find?_cons, h1]; exact a, by simp only [List.lookup, h2]; exact b⟩
      · exact .inr ⟨e', i', t', by rw [List.find?_cons, h1]; exact a, b, by simp only [List.lookup, h2]; exact c⟩
  | [], _ :: _, h => h.elim
  | _ :: _, [], h => h.elim
theorem kes_plain {P : Params} : ∀ {l : List DictEntry} {kvs : List (Str × Int)}, KEs P l kvs → l.any (·.refKey) = false
  | [], [], _ => rfl
  | e :: l, (_, _) :: _, ⟨⟨t, ek⟩, _, _, r⟩ => by
    rw [List.any_cons, kes_plain r]
    have : e.refKey = false := by
      unfold DictEntry.refKey
      rw [ek]
    rw [this]
    rfl
  | [], _ :: _, h => h.elim
  | _ :: _, [], h => h.elim
section
variable {K : PySem.W.Frag} {w : World} {p : Addr} {kvs : List (Str × Int)}
theorem KDi.dic (h : KDi K w p kvs) : KDic K w p := by
  obtain ⟨⟨es, n, hl, he⟩, lo⟩ := h
  exact ⟨⟨es, n, hl, kes_lit he⟩, lo⟩
theorem KDi.ns (h : KDi K w p kvs) (z : Str) : (PySem.W.nsIn K p z = some none ∧ kvs.lookup z = none) ∨ ∃ i t, PySem.W.nsIn K p z = some (some (.int i t)) ∧ kvs.lookup z = some i := by
  obtain ⟨⟨es, n, hl, he⟩, lo⟩ := h
  unfold PySem.W.nsIn
  rw [hl]
  dsimp only
  rcases kes_find z he with ⟨a, b⟩ | ⟨e, i, t, a, b, c⟩
  · left
    rw [a, kes_plain he]
    exact ⟨rfl, b⟩
  · right
    rw [a]
    exact ⟨i, t, by show some (some e.val) = _; rw [b], c⟩
theorem KDi.kdct (h : KDi K w p kvs) {z : Str} {i : Int} (e : kvs.lookup z = some i) : KDct K w p z (.int i) := by
  rcases h.ns z with ⟨_, b⟩ | ⟨j, t, a, b⟩
  · rw [e] at b
    cases b
  · obtain ⟨⟨es, n, hl, he⟩, lo⟩ := h
    rw [e] at b
    cases b
    exact ⟨es, n, _, hl, kes_lit he, a, ⟨t, rfl⟩⟩
end
section
variable {W : Wd} {w : World} {δ : DS} {P : D → Prop} {td ty : TE} {p : Addr} {kvs : List (Str × Int)}
theorem rd_kix {z : Str} {i : Int} (h : KDi W.K w p kvs) (e : kvs.lookup z = some i) (hP : P (.int i)) : RD W (rIxD W.K w) (.obj p) (.str z) P := fun M H v u wf r1 r2 Q q => by
  cases r1
  cases r2
  exact ⟨p, z, _, rfl, rfl, h.kdct e, q _ _ H wf.g (Keep.refl H) (.int i) hP⟩
theorem ev_kget (h : KDi W.K w p kvs) (hd : EvD W td δ fun x => x = .obj p ∧ EvD W ty δ fun y => ∃ z, y = .str z ∧ P (optI (kvs.lookup z))) : EvD W (tKGet W.K w td ty) δ P := fun M σ H pr Q q =>
  hd M σ H pr _ fun v d H1 g1 k1 r1 h1 => by
    obtain ⟨rfl, h2⟩ := h1
    cases r1
    refine ⟨p, rfl, h.dic, h2 M σ H1 (pr.next g1 k1) _ fun v2 d2 H2 g2 k2 r2 h3 => ?_⟩
    obtain ⟨z, rfl, hP⟩ := h3
    cases r2
    rcases h.ns z with ⟨a, b⟩ | ⟨i, t, a, b⟩
    · rw [b] at hP
      exact ⟨z, none, .non, rfl, a, rfl, q _ _ H2 g2 (k1.trans k2) .non hP⟩
    · rw [b] at hP
      exact ⟨z, _, .int i, rfl, a, ⟨t, rfl⟩, q _ _ H2 g2 (k1.trans k2) (.int i) hP⟩
/-- the greatest of a tuple of whole numbers -/
theorem rc_maxT {n : Int} {ns : List Int} (h : P (.int (ns.foldl max n))) : RCD W (fun xs H Q => ∃ (a : Addr) (n : Int) (ns : List Int), xs = [.ref a] ∧ SqT W.K H a ((n :: ns).map V.int) ∧ Q (.int (ns.foldl max n)) H) [.tup ((n :: ns).map D.int)] P := fun M H vs wf r Q q => by
  have nums_ : ∀ {l : List Int} {us : List V}, Reps W M H us (l.map D.int) → us = l.map V.int := fun {l} => by
    induction l with
    | nil => intro us r; cases r; rfl
    | cons i l ih =>
      intro us r
      cases r with
      | cons r1 r2 =>
        cases r1
        rw [ih r2]
        rfl
  cases r with
  | cons r1 r2 =>
    cases r2
    cases r1 with
    | tup hs hr =>
      have := nums_ (l := n :: ns) hr
      subst this
      exact ⟨_, n, ns, rfl, hs, q _ _ H wf.g (Keep.refl H) (.int _) h⟩
end
end PD
namespace PD
open PySem PySem.Spec PyProof.Rows L2
open PDX PDI PDT
def kindLen : List (Str × Int) := [("plus", 3), ("times", 3), ("turned", 2), ("beside", 3), ("above", 3), ("piece", 6), ("star", 2)]
abbrev Sh := Int × Int
def shD (p : Sh) : D := .tup [.int p.1, .int p.2]
def optSh : Option Sh → D
  | none => .non
  | some p => shD p
def twoD (k : Str) (one other : Sh) : Option Sh :=
  if k = "plus" then (if one = other then some one else none)
  else if k = "times" then (if one.2 = other.1 then some (one.1, other.2) else none)
  else if k = "beside" then (if one.1 = other.1 then some (one.1, one.2 + other.2) else none)
  else if one.2 = other.2 then some (one.1 + other.1, one.2) else none
def pieceD (i j r c : Int) (one : Sh) : Option Sh :=
  if min i j < 0 ∨ min r c < 1 then none else if one.1 < i + r ∨ one.2 < j + c then none else some (r, c)
def fitD (k : Str) (l : List Int) (one other : Sh) : Option Sh :=
  if k = "turned" then some (one.2, one.1)
  else if k = "star" then (if one.1 = one.2 then some one else none)
  else if k = "piece" then (match l with
    | [_, i, j, r, c] => pieceD i j r c one
    | _ => none)
  else twoD k one other
def small12 : Option Sh → Option Sh
  | none => none
  | some p => if 12 < max p.1 p.2 then none else some p
def intsOf : List D → Option (List Int)
  | [] => some []
  | x :: r => if x.isInt then (intsOf r).map (x.toI :: ·) else none
theorem intsOf_map (l : List Int) : intsOf (l.map D.int) = some l := by
  induction l with
  | nil => rfl
  | cons i l ih => simp only [List.map_cons, intsOf, D.isInt, if_true, ih, Option.map_some, D.toI]
theorem intsOf_some : ∀ {r : List D} {l : List Int}, intsOf r = some l → r = l.map D.int
  | [], l, h => by
    simp only [intsOf, Option.some.injEq] at h
    rw [← h]
    rfl
  | x :: r, l, h => by
    unfold intsOf at h
    split at h
    · rename_i hx
      obtain ⟨i, rfl⟩ := isInt_of hx
      cases e : intsOf r with
      | none => rw [e] at h; cases h
      | some q =>
        rw [e] at h
        cases h
        rw [intsOf_some e]
        rfl
    · cases h
theorem intsOf_all : ∀ (r : List D), r.all (·.isInt) = (intsOf r).isSome
  | [] => rfl
  | x :: r => by
    rw [List.all_cons, intsOf_all r]
    show _ = (if x.isInt then (intsOf r).map (x.toI :: ·) else none).isSome
    cases hx : x.isInt with
    | false => rfl
    | true => cases intsOf r <;> rfl
/-- a step's word and its numbers, if it has the form of one -/
def stepOf : D → Option (Str × List Int)
  | .tup (.str k :: r) => (match kindLen.lookup k, intsOf r with
    | some n, some l => if (l.length : Int) + 1 = n then some (k, l) else none
    | _, _ => none)
  | _ => none
def stD (k : Str) (l : List Int) : D := .tup (.str k :: l.map D.int)
theorem stepOf_some {x : D} {k : Str} {l : List Int} (h : stepOf x = some (k, l)) : x = stD k l ∧ kindLen.lookup k = some ((l.length : Int) + 1) := by
  unfold stepOf at h
  split at h
  · rename_i k' r
    split at h
    · rename_i n q e1 e2
      split at h
      · rename_i e3
        cases h
        exact ⟨by rw [intsOf_some e2]; rfl, by rw [e1, e3]⟩
      · cases h
    · cases h
  · cases h
theorem stepOf_stD {k : Str} {l : List Int} (h : kindLen.lookup k = some ((l.length : Int) + 1)) : stepOf (stD k l) = some (k, l) := by
  unfold stD stepOf
  simp only [h, intsOf_map, if_true]
def srcs (k : Str) (l : List Int) : List Int := if kindLen.lookup k = some 3 then l.take 2 else l.take 1
def okSrc (n : Int) (i : Int) : Bool := decide (0 ≤ i) && decide (i < n)
def shAt (shs : List Sh) (i : Int) : Sh := shs.getD i.toNat (0, 0)
def madeD (shs : List Sh) (x : D) : Option Sh := match stepOf x with
  | none => none
  | some (k, l) => if (srcs k l).all (okSrc shs.length) then small12 (fitD k l (shAt shs (l.getD 0 0)) (shAt shs (l.getD 1 0))) else none
/-- the kinds -/
theorem lookup_mem {n : Int} {k : Str} : ∀ {l : List (Str × Int)}, l.lookup k = some n → (k, n) ∈ l
  | [], h => by cases h
  | (x, i) :: l, h => by
    by_cases e : k = x
    · subst e
      have : ((k, i) :: l).lookup k = some i := by simp [List.lookup]
      rw [this] at h
      cases h
      exact List.mem_cons_self
    · have hx : (k == x) = false := by simpa using e
      simp only [List.lookup, hx] at h
      exact List.mem_cons_of_mem _ (lookup_mem h)
theorem kind_cases {k : Str} {n : Int} (h : kindLen.lookup k = some n) : (k = "plus" ∧ n = 3) ∨ (k = "times" ∧ n = 3) ∨ (k = "turned" ∧ n = 2) ∨ (k = "beside" ∧ n = 3) ∨ (k = "above" ∧ n = 3) ∨ (k = "piece" ∧ n = 6) ∨ (k = "star" ∧ n = 2) := by
  have := lookup_mem h
  simp only [kindLen, List.mem_cons, Prod.mk.injEq, List.not_mem_nil, or_false] at this
  exact this
section
variable {W : Wd} {P : D → Prop}
theorem kind_fine {k : Str} {n : Int} (h : kindLen.lookup k = some n) : (D.str k).fine = true := by
  rcases kind_cases h with ⟨rfl, _⟩ | ⟨rfl, _⟩ | ⟨rfl, _⟩ | ⟨rfl, _⟩ | ⟨rfl, _⟩ | ⟨rfl, _⟩ | ⟨rfl, _⟩ <;> decide +kernel
theorem eqvTx (x y : Str) : D.eqv (.str x) (.str y) = decide (x = y) := by
  show PyData.eqv (D.py (.str x)) (D.py (.str y)) = _
  simp only [D.py, PyData.eqv]
  first | rfl | (simp [BEq.beq, decide_eq_decide])
theorem rd_eqS {x y : Str} (hx : (D.str x).fine = true) (hy : (D.str y).fine = true) (h : P (.bl (decide (x = y)))) : RD W (rEqD W.K) (.str x) (.str y) P := rd_eqD hx hy (by rw [eqvTx]; exact h)
theorem rd_neS {x y : Str} (hx : (D.str x).fine = true) (hy : (D.str y).fine = true) (h : P (.bl (!decide (x = y)))) : RD W (rNeD W.K) (.str x) (.str y) P := rd_neD hx hy (by rw [eqvTx]; exact h)
theorem fineSh (p : Sh) : (shD p).fine = true := by
  simp [shD, D.fine, D.plain, D.plains, D.py, D.pys, SeqAt.shaped, PyData.canLay0, PyData.canLayAll0, PyData.depth, PyData.depthAll]
theorem eqvSh (p q : Sh) : D.eqv (shD p) (shD q) = decide (p = q) := by
  obtain ⟨a, b⟩ := p
  obtain ⟨c, d⟩ := q
  show PyData.eqv (D.py (shD (a, b))) (D.py (shD (c, d))) = _
  simp only [shD, D.py, D.pys, PyData.eqv, PyData.eqvAll]
  by_cases h : a = c <;> by_cases h2 : b = d <;> simp [h, h2]
theorem rd_eqSh {a b c d : Int} (h : P (.bl (decide ((a, b) = ((c, d) : Sh))))) : RD W (rEqD W.K) (.tup [.int a, .int b]) (.tup [.int c, .int d]) P := rd_eqD (fineSh (a, b)) (fineSh (c, d)) (by
  have := eqvSh (a, b) (c, d)
  unfold shD at this
  rw [this]
  exact h)
theorem rd_neIN {i : Int} (h : P (.bl true)) : RD W (rNeD W.K) (.int i) .non P := rd_neD (fineI i) (by decide +kernel) (by
  have : D.eqv (.int i) .non = false := by
    show PyData.eqv (D.py (.int i)) (D.py .non) = _
    simp only [D.py, PyData.eqv]
  rw [this]
  exact h)
theorem rc_max2 {i j : Int} (h : P (.int (max i j))) : RCD W (fun xs H Q => ∃ i j, xs = [.int i, .int j] ∧ Q (.int (if j > i then j else i)) H) [.int i, .int j] P := fun M H vs w r Q q => by
  cases r with
  | cons r1 r2 =>
    cases r2 with
    | cons r2 r3 =>
      cases r3
      cases r1
      cases r2
      have e : (if j > i then j else i) = max i j := by omega
      exact ⟨i, j, rfl, q _ _ H w.g (Keep.refl H) (.int _) (by rw [e]; exact h)⟩
theorem rc_min2 {i j : Int} (h : P (.int (min i j))) : RCD W (fun xs H Q => ∃ i j, xs = [.int i, .int j] ∧ Q (.int (if j < i then j else i)) H) [.int i, .int j] P := fun M H vs w r Q q => by
  cases r with
  | cons r1 r2 =>
    cases r2 with
    | cons r2 r3 =>
      cases r3
      cases r1
      cases r2
      have e : (if j < i then j else i) = min i j := by omega
      exact ⟨i, j, rfl, q _ _ H w.g (Keep.refl H) (.int _) (by rw [e]; exact h)⟩
end
theorem cutD_mid (xs : List D) (a b : Nat) : cutD xs (some (a : Int)) (some (b : Int)) = (xs.drop a).take (b - a) := by
  unfold cutD
  rw [HT.sIx_nat, HT.sIx_nat]
  by_cases h : a ≤ xs.length
  · rw [Nat.min_eq_left h]
    by_cases h2 : b ≤ xs.length
    · rw [Nat.min_eq_left h2]
    · rw [Nat.min_eq_right (by omega), List.take_of_length_le (by rw [List.length_drop]; omega), List.take_of_length_le (by rw [List.length_drop]; omega)]
  · rw [show min a xs.length = xs.length from by omega, List.drop_of_length_le (Nat.le_refl _), List.drop_of_length_le (by omega), List.take_nil, List.take_nil]
theorem cut1 (x : D) (xs : List D) : cutD (x :: xs) (some 1) none = xs := cutD_hi (x :: xs) 1
theorem cut2 (x y : D) (xs : List D) : cutD (x :: y :: xs) (some 2) none = xs := cutD_hi (x :: y :: xs) 2
theorem cut13 (x : D) (xs : List D) : cutD (x :: xs) (some 1) (some 3) = xs.take 2 := cutD_mid (x :: xs) 1 3
theorem cut12 (x : D) (xs : List D) : cutD (x :: xs) (some 1) (some 2) = xs.take 1 := cutD_mid (x :: xs) 1 2
section
variable {W : Wd} {δ : DS}
theorem gd_tup4 {g1 g2 g3 g4 : TG} {x y z u : D} {j1 j2 j3 j4 : List Nat} {Nx : DS → Prop} (h : GD W g1 x δ j1 fun δ1 => GD W g2 y δ1 j2 fun δ2 => GD W g3 z δ2 j3 fun δ3 => GD W g4 u δ3 j4 Nx) :
    GD W (gTup W.K 4 (gCons g1 (gCons g2 (gCons g3 (gCons g4 gNil))))) (.tup [x, y, z, u]) δ (j1 ++ j2 ++ j3 ++ j4) Nx := fun M σ H v p r Q q => by
  cases r with
  | @tup a vs ds hs hr =>
    obtain _ | ⟨r1, _ | ⟨r2, _ | ⟨r3, _ | ⟨r4, _ | _⟩⟩⟩⟩ := hr
    refine ⟨a, _, rfl, hs, rfl, _, _, rfl, h M σ H _ p r1 _ fun σ1 δ1 p1 h1 w1 => ⟨_, _, rfl, h1 M σ1 H _ p1 r2 _ fun σ2 δ2 p2 h2 w2 => ⟨_, _, rfl, h2 M σ2 H _ p2 r3 _ fun σ3 δ3 p3 h3 w3 => ⟨_, _, rfl, h3 M σ3 H _ p3 r4 _ fun σ4 δ4 p4 h4 w4 => ⟨rfl, q σ4 δ4 p4 h4 fun vs hv => ?_⟩⟩⟩⟩⟩
    have m : ∀ j, (j ∈ j1 ∨ j ∈ j2 ∨ j ∈ j3 ∨ j ∈ j4) → j ∈ vs := fun j hj => hv j (by
      simp only [List.mem_append]
      rcases hj with h | h | h | h
      · exact .inl (.inl (.inl h))
      · exact .inl (.inl (.inr h))
      · exact .inl (.inr h)
      · exact .inr h)
    rw [w4 vs fun j hj => m j (.inr (.inr (.inr hj))), w3 vs fun j hj => m j (.inr (.inr (.inl hj))), w2 vs fun j hj => m j (.inr (.inl hj)), w1 vs fun j hj => m j (.inl hj)]
end
def D.isStr : D → Bool
  | .str _ => true
  | _ => false
def D.isIns : D → Bool
  | .ins _ _ _ => true
  | _ => false
/-- what the class at C says of objects of the built-in types -/
structure IsiC (K : PySem.W.Frag) (C : Addr) : Prop where
  kI : PySem.W.kitOne K (.type "int") (.ref C) = some false
  kB : PySem.W.kitOne K (.type "bool") (.ref C) = some false
  kS : PySem.W.kitOne K (.type "str") (.ref C) = some false
  kT : PySem.W.kitOne K (.type "tuple") (.ref C) = some false
  kL : PySem.W.kitOne K (.type "list") (.ref C) = some false
  kN : PySem.W.kitOne K (.type "NoneType") (.ref C) = some false
  kD : PySem.W.kitOne K (.type "dict") (.ref C) = some false
  yes : PySem.W.kitOne K (.ref C) (.ref C) = some true
def isiB (K : PySem.W.Frag) (C : Addr) : Bool := ["int", "bool", "str", "tuple", "list", "NoneType", "dict"].all (fun n => decide (PySem.W.kitOne K (.type n) (.ref C) = some false)) && decide (PySem.W.kitOne K (.ref C) (.ref C) = some true)
theorem isi_of {K : PySem.W.Frag} {C : Addr} (h : isiB K C = true) : IsiC K C := by
  unfold isiB at h
  simp only [List.all_cons, List.all_nil, Bool.and_eq_true, decide_eq_true_eq, Bool.and_true] at h
  obtain ⟨⟨h1, h2, h3, h4, h5, h6, h7⟩, h8⟩ := h
  exact ⟨h1, h2, h3, h4, h5, h6, h7, h8⟩
section
variable {W : Wd} {P : D → Prop}
theorem rc_isiSJ {x : D} (hx : Jd1 W.K x) (h : P (.bl x.isStr)) : RCD W (rIsi W.K) [x, .ty "str"] P := by
  cases x with
  | ins C ns ds => exact rc_isiO hx hx.kS h
  | _ => first | exact rc_isi rfl (b := true) (by decide +kernel) h | exact rc_isi rfl (b := false) (by decide +kernel) h | cases hx
theorem rc_isiC {C : Addr} {x : D} (c : IsiC W.K C) (hx : Jd1 W.K x) (hc : ∀ D ns ds, x = .ins D ns ds → D = C) (h : P (.bl x.isIns)) : RCD W (rIsi W.K) [x, .obj C] P := fun M H vs w r Q q => by
  cases r with
  | cons r1 r2 =>
    cases r2 with
    | cons r2 r3 =>
      cases r3
      cases r2
      rename_i v0
      have go : ∀ {t : Value} {b : Bool}, TyX W.K H v0 t → PySem.W.kitOne W.K t (.ref C) = some b → P (.bl b) → rIsi W.K [v0, V.ref C] H Q := fun {t b} ht hk hP => ⟨v0, _, _, _, b, rfl, .own C, ht, hk, q _ _ H w.g (Keep.refl H) (.bl b) hP⟩
      cases x with
      | ins D ns ds =>
        have := hc D ns ds rfl
        subst this
        exact go (tyxO hx r1) c.yes h
      | non => exact go (tyx r1 rfl) c.kN h
      | bl b => exact go (tyx r1 rfl) c.kB h
      | int i => exact go (tyx r1 rfl) c.kI h
      | str y => exact go (tyx r1 rfl) c.kS h
      | tup xs => exact go (tyx r1 rfl) c.kT h
      | lst xs => exact go (tyx r1 rfl) c.kL h
      | dct => exact go (tyx r1 rfl) c.kD h
      | dic ks ds => exact go (tyx r1 rfl) c.kD h
      | _ => cases hx
end
/-- an object is a right grid -/
def okIns (C : Addr) (x : D) : Prop := ∀ E ns ds, x = .ins E ns ds → ∃ n m xs, x = gd C n xs ∧ Grd n m xs
def okIns2 (C : Addr) (x : D) : Prop := okIns C x ∧ ∀ xs, x = .tup xs → ∀ e ∈ xs, okIns C e
theorem okIns_gd {C : Addr} {n : Int} {m : Nat} {xs : List D} (g : Grd n m xs) : okIns C (gd C n xs) := fun _ _ _ _ => ⟨n, m, xs, rfl, g⟩
theorem okIns2_tup {C : Addr} {xs : List D} (h : ∀ e ∈ xs, okIns C e) : okIns2 C (.tup xs) := ⟨fun _ _ _ z => by (cases z), fun ys z e he => by
  cases z
  exact h e he⟩
def basD : D → Int
  | .ins _ _ (.int b :: _) => b
  | _ => 0
def areG : D → Bool
  | .tup xs => decide (1 ≤ xs.length) && decide (xs.length ≤ 6) && xs.all D.isIns && xs.all (fun e => decide (basD e = basD (xs.headD .non)))
  | _ => false
def shG : D → Sh
  | .ins _ _ [_, .tup rows] => (rows.length, (rows.headD .non).len)
  | _ => (0, 0)
/-- steps done one behind another: the shapes, or the first one that can't be done -/
def runS : List Sh → List D → Nat → List Sh ⊕ Nat
  | shs, [], _ => .inl shs
  | shs, x :: r, k => match madeD shs x with
    | none => .inr k
    | some p => runS (shs ++ [p]) r (k + 1)
def wrongS (g st : D) : D :=
  if areG g then
    (match st with
      | .tup xs => if xs.length ≤ 16 then (match runS ((items g).map shG) xs 0 with
        | .inl _ => .non
        | .inr k => .int k) else .str "steps"
      | _ => .str "steps")
  else .str "grids"
end PD
namespace PD
open PySem PySem.Spec PyProof.Rows L2
open PDX PDI PDT
mutual
def D.nolst : D → Bool
  | .lst _ => false
  | .tup xs => D.nolsts xs
  | .ins _ _ xs => D.nolsts xs
  | .exc _ _ _ xs => D.nolsts xs
  | .xob _ _ xs => D.nolsts xs
  | .dic _ xs => D.nolsts xs
  | _ => true
def D.nolsts : List D → Bool
  | [] => true
  | x :: xs => x.nolst && D.nolsts xs
end
section
variable {W : Wd} {M : Addr → Prop} {H : Hp}
/-- M, and all lists that stand -/
def withL (M : Addr → Prop) (H : Hp) : Addr → Prop := fun a => M a ∨ ∃ vs, H a = some (.lst vs)
theorem not_withL {a : Addr} {o : HO} (n : ¬ M a) (h : H a = some o) (ho : ∀ vs, o ≠ .lst vs) : ¬ withL M H a := fun z => by
  rcases z with z | ⟨vs, z⟩
  · exact n z
  · rw [h] at z
    exact ho vs (Option.some.inj z)
mutual
theorem Rep.withL : ∀ {v : V} {d : D}, Rep W M H v d → d.nolst = true → Rep W (withL M H) H v d
  | _, _, .non, _ => .non
  | _, _, .bl b, _ => .bl b
  | _, _, .int i, _ => .int i
  | _, _, .str x, _ => .str x
  | _, _, .ty n, _ => .ty n
  | _, _, .tup hs r, h => .tup hs (r.withL (by simpa [D.nolst] using h))
  | _, _, .lst _ _ _, h => by simp [D.nolst] at h
  | _, _, .st e, _ => .st e
  | _, _, .obj a, _ => .obj a
  | _, _, .dct n e, _ => .dct (not_withL n e fun _ z => by cases z) e
  | _, _, .ins n e q r, h => .ins (not_withL n e fun _ z => by cases z) e q (r.withL (by simpa [D.nolst] using h))
  | _, _, .exc n e q r, h => .exc (not_withL n e fun _ z => by cases z) e q (r.withL (by simpa [D.nolst] using h))
  | _, _, .xob0 n e, _ => .xob0 (not_withL n e fun _ z => by cases z) e
  | _, _, .xob n e n2 e2 q r, h => .xob (not_withL n e fun _ z => by cases z) e (not_withL n2 e2 fun _ z => by cases z) e2 q (r.withL (by simpa [D.nolst] using h))
  | _, _, .dic n e q r, h => .dic (not_withL n e fun _ z => by cases z) e q (r.withL (by simpa [D.nolst] using h))
theorem Reps.withL : ∀ {vs : List V} {ds : List D}, Reps W M H vs ds → D.nolsts ds = true → Reps W (withL M H) H vs ds
  | _, _, .nil, _ => .nil
  | _, _, .cons r t, h => by
    simp only [D.nolsts, Bool.and_eq_true] at h
    exact .cons (r.withL h.1) (t.withL h.2)
end
end
section
variable {W : Wd} {Wx : WX} {X : XV → DS → Prop} {ω : Om} {δ : DS} {N : Om → DS → Prop} {R : D → Prop} {B C : Om → DS → Prop} {te : TE} {ta : TA}
/-- no list is known in the slots -/
def noL (δ : DS) : Prop := ∀ d, some d ∈ δ → d.nolst = true
/-- a list that was not there before is one's own -/
theorem so_have {i : Nat} {M0 M1 M : Addr → Prop} {H0 L1 H H2 : Hp} {σ : L2.St} {E : Ends} {a : Addr} {vs : List V} {ds : List D} (d0 : ∀ a, M0 a → ∃ o, H0 a = some o) (p : Pre W M δ σ H) (ow : Own W M0 M H ω) (e : In2 W M0 H0 M1 L1 M H)
    (o : OutsO W Wx M0 H0 M1 L1 N R B C X E) (g2 : StOk W H2) (k2 : Keep W H H2) (ha : H a = none) (hv : H2 a = some (.lst vs)) (r : Reps W (fun b => M b ∨ b = a) H2 vs ds) (hN : (∀ x ∈ ω, x.1 ≠ a) → N ((a, ds) :: ω) (δ.set i (some (.obj a)))) :
    E.nx (σ.set i (some (.ref a))) H2 := by
  have ns : ¬ W.S a := fun z => by
    obtain ⟨_, q⟩ := StOk.at p.wf.g z
    rw [ha] at q
    cases q
  have off0 : H0 a = none := by
    cases h0 : H0 a with
    | none => rfl
    | some oo =>
      rw [e.e.k a oo ns h0] at ha
      cases ha
  have n0 : ¬ M0 a := fun z => by
    obtain ⟨oo, ho⟩ := d0 a z
    rw [off0] at ho
    cases ho
  have e2 : Ent W M H (fun b => M b ∨ b = a) H2 := ⟨k2, fun _ x => .inl x, fun b x y => by
    rcases x with x | x
    · exact absurd x y
    · rw [x]; exact ha⟩
  have wf' : Wf W (fun b => M b ∨ b = a) H2 := ⟨g2, fun b z => .inl (p.wf.sm b z), fun b x => by
    rcases x with x | x
    · exact (p.wf.next g2 k2).dom b x
    · rw [x]; exact ⟨_, hv⟩⟩
  have wg' : Wg W (fun b => M b ∨ b = a) H := ⟨p.wf.g, fun b z => .inl (p.wf.sm b z)⟩
  have sl : Slots W (fun b => M b ∨ b = a) H2 σ δ := ⟨p.sl.len, fun j d hd => by
    obtain ⟨v, a1, a2⟩ := p.sl.get j d hd
    exact ⟨v, a1, (a2.more e2.new).keepG wg' k2⟩⟩
  refine o.nx (fun b => M b ∨ b = a) _ ((a, ds) :: ω) _ _ ⟨wf', sl.set i (.obj a)⟩ (fun b es m => ?_) (e.trans p.wf e2) (hN fun x hx z => ?_)
  · rcases List.mem_cons.mp m with m | m
    · cases m
      exact ⟨.inr rfl, n0, ns, fun s hs z => (by
        obtain ⟨_, _, _, _, _, _, q, _⟩ := p.wf.g s hs
        rw [z, ha] at q
        cases q), vs, hv, r⟩
    · exact ow.move p.wf wf' e2 b es m
  · obtain ⟨_, _, _, _, vs', q, _⟩ := ow x.1 x.2 hx
    rw [z, ha] at q
    cases q
/-- i = e, e a new list of plain items -/
theorem so_asgN {i : Nat} (hn : noL δ) (h : EvD W te δ fun d => ∃ ds, d = .lst ds ∧ D.nrefs ds = true ∧ ∀ p, (∀ x ∈ ω, x.1 ≠ p) → N ((p, ds) :: ω) (δ.set i (some (.obj p)))) : SO W Wx (tAsg te (gName i)) ω δ N R B C X := fun M0 H0 M1 L1 M σ H E d0 p ow e o => by
  have wf2 : Wf W (withL M H) H := ⟨p.wf.g, fun a z => .inl (p.wf.sm a z), fun a z => by
    rcases z with z | ⟨vs, z⟩
    · exact p.wf.dom a z
    · exact ⟨_, z⟩⟩
  have p2 : Pre W (withL M H) δ σ H := ⟨wf2, p.sl.len, fun j d hd => by
    obtain ⟨v, a1, a2⟩ := p.sl.get j d hd
    exact ⟨v, a1, a2.withL (hn d (List.mem_of_getElem? hd))⟩⟩
  refine h (withL M H) σ H p2 _ fun v d H2 g2 k2 r h1 => ?_
  obtain ⟨ds, rfl, nr, hN⟩ := h1
  cases r with
  | @lst a vs _ n hv hr =>
    have ha : H a = none := by
      cases q : H a with
      | none => rfl
      | some oo =>
        have ns : ¬ W.S a := fun z => n (.inl (p.wf.sm a z))
        have := k2 a oo ns q
        rw [hv] at this
        have := Option.some.inj this
        exact absurd (.inr ⟨vs, by rw [q, this]⟩) n
    exact so_have d0 p ow e o g2 k2 ha hv (hr.nref nr) (hN a)
/-- i = e, e a list that was not there before -/
theorem so_asgF {i : Nat} (h : EvF W te δ fun ds => ∀ p, (∀ x ∈ ω, x.1 ≠ p) → N ((p, ds) :: ω) (δ.set i (some (.obj p)))) : SO W Wx (tAsg te (gName i)) ω δ N R B C X := fun M0 H0 M1 L1 M σ H E d0 p ow e o =>
  h M σ H p _ fun a vs ds H2 g2 k2 ha nm hv r hN => so_have d0 p ow e o g2 k2 ha hv r (hN a)
/-- i = list(e) -/
theorem so_list {i : Nat} (h : EvA W ta δ fun xs => ∃ ds, (xs = [.tup ds] ∨ xs = [.lst ds]) ∧ D.nrefs ds = true ∧ ∀ p, (∀ x ∈ ω, x.1 ≠ p) → N ((p, ds) :: ω) (δ.set i (some (.obj p)))) :
    SO W Wx (tAsg (tCB (fun xs H Q => ∃ p ys, xs = [V.ref p] ∧ (SqL W.K H p ys ∨ SqT W.K H p ys) ∧ ∀ l, H l = none → Q (.ref l) (upd H l (.lst ys))) ta) (gName i)) ω δ N R B C X := fun M0 H0 M1 L1 M σ H E d0 p ow e o =>
  h M σ H p _ fun us xs H1 g1 k1 r1 h1 => by
    obtain ⟨ds, hx, nr, hN⟩ := h1
    have go : ∀ (q : Addr) (ys : List V), us = [.ref q] → (SqL W.K H1 q ys ∨ SqT W.K H1 q ys) → Reps W M H1 ys ds → ∃ p ys, us = [V.ref p] ∧ (SqL W.K H1 p ys ∨ SqT W.K H1 p ys) ∧ ∀ l, H1 l = none → E.nx (σ.set i (some (.ref l))) (upd H1 l (.lst ys)) := fun q ys eu hs hr => ⟨q, ys, eu, hs, fun l hl => by
      have hl0 : H l = none := by
        cases z : H l with
        | none => rfl
        | some oo =>
          have ns : ¬ W.S l := fun w => by
            obtain ⟨_, q⟩ := StOk.at g1 w
            rw [hl] at q
            cases q
          rw [k1 l oo ns z] at hl
          cases hl
      have k2 : Keep W H1 (upd H1 l (.lst ys)) := Keep.new hl
      exact so_have d0 p ow e o (g1.new hl) (k1.trans k2) hl0 upd_same ((hr.keepG (p.next g1 k1).wf.wg k2).nref nr) (hN l)⟩
    rcases hx with rfl | rfl
    · cases r1 with
      | cons r1 r2 =>
        cases r2
        cases r1 with
        | tup hs hr => exact go _ _ rfl (.inr hs) hr
    · cases r1 with
      | cons r1 r2 =>
        cases r2
        cases r1 with
        | lst n hs hr => exact go _ _ rfl (.inl (.inl (.inl hs))) hr
end
theorem nrefs_sh (l : List Sh) : D.nrefs (l.map shD) = true := nrefs_of fun x hx => by
  obtain ⟨p, _, rfl⟩ := List.mem_map.mp hx
  exact nref_tup fun y hy => by
    simp only [List.mem_cons, List.not_mem_nil, or_false] at hy
    rcases hy with rfl | rfl <;> rfl
theorem nref_opt (o : Option Sh) : (optSh o).nref = true := by
  cases o with
  | none => rfl
  | some p =>
    exact nref_tup fun y hy => by
      simp only [List.mem_cons, List.not_mem_nil, or_false] at hy
      rcases hy with rfl | rfl <;> rfl
theorem areG_ins {C : Addr} {xs : List D} (hc : ∀ e ∈ xs, okIns C e) (h : xs.all D.isIns = true) {e : D} (he : e ∈ xs) : ∃ n m ys, e = gd C n ys ∧ Grd n m ys := by
  have := List.all_eq_true.mp h e he
  cases e <;> first | exact hc _ he _ _ _ rfl | cases this
theorem areG_tup {g : D} (h : areG g = true) : ∃ xs, g = .tup xs ∧ 1 ≤ xs.length ∧ xs.length ≤ 6 ∧ xs.all D.isIns = true := by
  unfold areG at h
  split at h
  · rename_i xs
    simp only [Bool.and_eq_true, decide_eq_true_eq] at h
    exact ⟨xs, rfl, h.1.1.1, h.1.1.2, h.1.2⟩
  · cases h
theorem wrongS_no {g st : D} (h : areG g = false) : wrongS g st = .str "grids" := by
  unfold wrongS
  rw [h]
  rfl
theorem wrongS_in {gs : List D} {st : D} (h : areG (.tup gs) = true) : wrongS (.tup gs) st = (match st with
      | .tup xs => if xs.length ≤ 16 then (match runS (gs.map shG) xs 0 with
        | .inl _ => .non
        | .inr k => .int k) else .str "steps"
      | _ => .str "steps") := by
  unfold wrongS
  rw [h]
  rfl
end PD
namespace PD
open PySem PySem.Spec PyProof.Rows L2
open PDX PDI PDT
end PD
namespace PD
open PySem PySem.SeqAt
open AutoSeq1 (wpAny_loadPart')
open MeetsSeq MeetsSeq2 MeetsSeq3 SeqRoads2
section
open PyProof.Rows L2
open PDX PDI PDT
theorem sl_listK {X : Cx} {K : PySem.W.Frag} (h : X.K = K) : SlR X (rSlL K) := by subst h; exact sl_list
end
/-- a script's object -/
abbrev scD (C : Addr) (g st : D) (r : List Sh) : D := .ins C ["grids", "steps", "shapes"] [g, st, .tup (r.map shD)]
section
open PyProof.Rows L2
open PDX PDI PDT
theorem areG_good {C : Addr} {n : Int} {gs : List D} (l1 : 1 ≤ gs.length) (l6 : gs.length ≤ 6) (hg : ∀ e ∈ gs, ∃ xs, e = gd C n xs) : areG (.tup gs) = true := by
  show (decide (1 ≤ gs.length) && decide (gs.length ≤ 6) && gs.all D.isIns && gs.all (fun e => decide (basD e = basD (gs.headD .non)))) = true
  rw [decide_eq_true l1, decide_eq_true l6]
  obtain ⟨x, r, rfl⟩ : ∃ x r, gs = x :: r := by
    cases gs with
    | nil => simp at l1
    | cons a b => exact ⟨a, b, rfl⟩
  have a1 : (x :: r).all D.isIns = true := List.all_eq_true.mpr fun e he => by
    obtain ⟨xs, rfl⟩ := hg e he
    rfl
  have a2 : (x :: r).all (fun e => decide (basD e = basD ((x :: r).headD .non))) = true := List.all_eq_true.mpr fun e he => by
    obtain ⟨xs, rfl⟩ := hg e he
    obtain ⟨ys, ey⟩ := hg x List.mem_cons_self
    subst ey
    exact decide_eq_true rfl
  rw [a1, a2]
  rfl
theorem wrongS_good {C : Addr} {n : Int} {gs xs : List D} {r : List Sh} (l1 : 1 ≤ gs.length) (l6 : gs.length ≤ 6) (hg : ∀ e ∈ gs, ∃ xs, e = gd C n xs) (l16 : xs.length ≤ 16) (hr : runS (gs.map shG) xs 0 = .inl r) : wrongS (.tup gs) (.tup xs) = .non := by
  rw [wrongS_in (areG_good l1 l6 hg)]
  show (if xs.length ≤ 16 then _ else _) = _
  rw [if_pos l16, hr]
theorem ev_slL {W : Wd} {δ : DS} {P : D → Prop} {te : TE} {tl th : TO} (h : EvD W te δ fun x => ∃ xs, x = .lst xs ∧ EvO W tl δ fun lo => EvO W th δ fun hi => P (.lst (cutD xs lo hi))) : EvD W (tSl (rSlL W.K) te tl th) δ P := fun M σ H p Q q =>
  h M σ H p _ fun v x H1 g1 k1 r1 h1 => by
    obtain ⟨xs, rfl, h2⟩ := h1
    refine h2 M σ H1 (p.next g1 k1) _ fun lo H2 g2 k2 h3 => ?_
    refine h3 M σ H2 ((p.next g1 k1).next g2 k2) _ fun hi H3 g3 k3 hP => ?_
    have r3 := (r1.keep (p.next g1 k1).wf k2).keep ((p.next g1 k1).next g2 k2).wf k3
    have p3 := ((p.next g1 k1).next g2 k2).next g3 k3
    cases r3 with
    | @lst a vs _ n hs hr =>
      refine ⟨a, vs, rfl, .inl (.inl hs), fun l hl => ?_⟩
      have kk : Keep W H3 (upd H3 l (.lst (cutV vs lo hi))) := Keep.new hl
      have hc : Reps W M H3 (cutV vs lo hi) (cutD xs lo hi) := by
        unfold cutV cutD
        rw [hr.length]
        exact (hr.drop _).take _
      refine q _ (.lst (cutD xs lo hi)) _ (g3.new hl) (((k1.trans k2).trans k3).trans kk) (.lst (fun m => ?_) upd_same (hc.keep p3.wf kk)) hP
      obtain ⟨o, ho⟩ := p3.wf.dom l m
      rw [hl] at ho
      cases ho
end
end PD
namespace PD
open PySem PySem.Spec PyProof.Rows L2
open RZ (iZipA ItzT)
open PDX PDI
section
variable {W : Wd} {δ : DS} {P : D → Prop} {ta tb te : TE}
theorem src_zipL {M : Addr → Prop} {H1 : Hp} {a b : Addr} {vs us : List V} {ds es : List D} (w : Wf W M H1) (na : ¬ M a) (nb : ¬ M b) (hs : H1 a = some (.lst vs)) (hr : Reps W M H1 vs ds) (hs' : H1 b = some (.lst us)) (hr' : Reps W M H1 us es) : Src W M (Itz W.K a b) H1 (zipD ds es) := fun M' hm hn i H2 k g => by
  have wg : Wg W M' H1 := ⟨w.g, fun b e => hm b (w.sm b e)⟩
  have wg2 : Wg W M' H2 := ⟨g, fun b e => hm b (w.sm b e)⟩
  have hs2 : SqL W.K H2 a vs := .inl (.inl (rdL_keepM w.wg k na hs))
  have hs3 : SqL W.K H2 b us := .inl (.inl (rdL_keepM w.wg k nb hs'))
  have hr2 : Reps W M' H2 vs ds := (hr.more hn).keepM wg (k.mono hm)
  have hr3 : Reps W M' H2 us es := (hr'.more hn).keepM wg (k.mono hm)
  refine ⟨fun hl => ⟨vs, us, hs2, hs3, ?_⟩, fun d hd => ?_⟩
  · rw [hr2.length, hr3.length, hl]
    unfold zipD
    rw [List.length_zipWith]
    omega
  · obtain ⟨x, y, hx, hy, rfl⟩ := zipD_get hd
    obtain ⟨v, hv, rv⟩ := hr2.get hx
    obtain ⟨u, hu, ru⟩ := hr3.get hy
    refine ⟨⟨vs, us, v, u, hs2, hs3, hv, hu⟩, fun z H3 yy => ?_⟩
    obtain ⟨T, x1, y1, rfl, hT, rfl, f1, f2⟩ := yy
    have e1 := f1 vs hs2
    have e2 := f2 us hs3
    rw [hv] at e1
    rw [hu] at e2
    cases e1
    cases e2
    have kn : Keep W H2 (upd H2 T (.tup [v, u])) := Keep.new hT
    exact ⟨g.new hT, kn, .tup (SqT.of upd_same) (.cons (rv.keepG wg2 kn) (.cons (ru.keepG wg2 kn) .nil))⟩
theorem it_zipL {P : List D → Prop} {ta : TA} (h : PD.EvA W ta δ fun xs => ∃ ds es, xs = [.lst ds, .lst es] ∧ P (zipD ds es)) : IterD W (iZipA W.K ta) δ P := fun M σ H p R q => h M σ H p _ fun vs ds H1 g1 k1 r1 h1 => by
  obtain ⟨ds, es, rfl, hP⟩ := h1
  cases r1 with
  | cons r1 r2 =>
    cases r2 with
    | cons r2 r3 =>
      cases r3
      cases r1 with
      | lst na hs hr =>
        cases r2 with
        | lst nb hs' hr' => exact ⟨_, _, _, _, rfl, .inl ⟨.inl (.inl hs), .inl (.inl hs'), q _ H1 _ g1 k1 hP (src_zipL (p.wf.next g1 k1) na nb hs hr hs' hr')⟩⟩
def iEnumA (K : PySem.W.Frag) (ta : TA) : TI := fun σ H R => iEnumT K ta σ H R ∨ iEnum K ta σ H R
theorem pi_enumAK {X : Cx} {K : PySem.W.Frag} {e : Expr} {ta : TA} {p pos tpos : Pos} {elts : List Expr} {kk : Nat} (h : X.K = K) (hg : Gl X "enumerate") (hm : X.mg "enumerate" = none) (ha : PA X [e] ta) (hs : starEach [e] X.env = [(false, eval e X.env)] := by rfl) :
    PI X (.Tuple elts kk tpos) (.Call (.Name "enumerate" p) [e] [] pos) (iEnumA K ta) := by
  subst h
  exact ⟨fun pins s σ H R I h => by
    rcases h with h | h
    · exact (pi_enumT rfl hg hm ha hs).run pins s σ H R I h
    · exact (pi_enum hg hm ha hs).run pins s σ H R I h⟩
theorem src_enumL {M : Addr → Prop} {H1 : Hp} {a : Addr} {vs : List V} {ds : List D} (w : Wf W M H1) (na : ¬ M a) (hs : H1 a = some (.lst vs)) (hr : Reps W M H1 vs ds) : Src W M (Ite W.K a) H1 (enumD ds) := fun M' hm hn i H2 k g => by
  have wg : Wg W M' H1 := ⟨w.g, fun b e => hm b (w.sm b e)⟩
  have wg2 : Wg W M' H2 := ⟨g, fun b e => hm b (w.sm b e)⟩
  have hs2 : SqL W.K H2 a vs := .inl (.inl (rdL_keepM w.wg k na hs))
  have hr2 : Reps W M' H2 vs ds := (hr.more hn).keepM wg (k.mono hm)
  refine ⟨fun hl => ⟨vs, hs2, by rw [hr2.length, hl, enumD_length]; exact Nat.le_refl _⟩, fun d hd => ?_⟩
  obtain ⟨x, hx, rfl⟩ := enumD_get hd
  obtain ⟨v, hv, rv⟩ := hr2.get hx
  refine ⟨⟨vs, v, hs2, hv⟩, fun z H3 yy => ?_⟩
  obtain ⟨T, x1, rfl, hT, rfl, f1⟩ := yy
  have e1 := f1 vs hs2
  rw [hv] at e1
  cases e1
  have kn : Keep W H2 (upd H2 T (.tup [.int (i : Nat), v])) := Keep.new hT
  exact ⟨g.new hT, kn, .tup (SqT.of upd_same) (.cons (.int _) (.cons (rv.keepG wg2 kn) .nil))⟩
theorem it_enumAL {P : List D → Prop} {ta : TA} (h : PD.EvA W ta δ fun xs => ∃ ds, xs = [.lst ds] ∧ P (enumD ds)) : IterD W (iEnumA W.K ta) δ P := fun M σ H p R q => .inr (h M σ H p _ fun vs ds H1 g1 k1 r1 h1 => by
  obtain ⟨ds, rfl, hP⟩ := h1
  cases r1 with
  | cons r1 r2 =>
    cases r2
    cases r1 with
    | lst na hs hr => exact ⟨_, _, rfl, .inl (.inl hs), q _ H1 _ g1 k1 hP (src_enumL (p.wf.next g1 k1) na hs hr)⟩)
theorem ints_flat {M : Addr → Prop} {H : Hp} : ∀ {l : List Int} {vs : List V}, Reps W M H vs (l.map D.int) → vs = l.map V.int
  | [], _, .nil => rfl
  | i :: l, _, .cons r t => by
    cases r
    rw [ints_flat t]
    rfl
end
end PD
namespace PD
open PySem PySem.Spec PyProof.Rows L2
open PDX PDI
/-- an item of a list, by values -/
def rGetN : V → V → Hp → VK → Prop := fun o i H Q => ∃ (p : Addr) (xs : List V) (k : Nat) (v : V), o = .ref p ∧ i = .int (k : Int) ∧ H p = some (.lst xs) ∧ xs[k]? = some v ∧ Q v H
theorem get_listN {X : Cx} : PGet X rGetN := by
  intro pins s σ H o i ov iv Q I ro ri h
  obtain ⟨p, xs, k, v, rfl, rfl, hp, hv, q⟩ := h
  cases ro
  obtain ⟨t, rfl⟩ := ri
  obtain ⟨its, r, pl, hz⟩ := I.list (.inl (.inl hp))
  obtain ⟨u, hu, ru⟩ := r.get hv
  have hl := (List.getElem?_eq_some_iff.mp hv).1
  have hn := line63
  exact wpAny_getItem_list pl.isList (by omega) (by omega) (by simpa using hu) ⟨v, H, I, ru, q⟩
def GoodC (cs : List Int) : Prop := 1 ≤ cs.length ∧ cs.length ≤ 63 ∧ ∀ n ∈ cs, 0 ≤ n
def spStart (K : PySem.W.Frag) : Sp := fun vs H Q _ => ∃ (a : Addr) (ns : List Int), vs = [.ref a] ∧ SqL K H a (ns.map V.int) ∧ ns.length ≤ 63 ∧
  ∀ (H' : Hp) (s b : Addr) (cs : List Int), (∀ x o, H x = some o → H' x = some o) → b ≠ s → GoodC cs → H' s = some (.lst [.ref b, .int 0, .int 0]) → H' b = some (.lst (cs.map V.int)) → Q (.ref s) H'
abbrev quietW (K : PySem.W.Frag) : Wd := ⟨K, none, 0⟩
theorem start_body {K : PySem.W.Frag} {vs : List V} {H : Hp} {Q : VK} {E : XK} {x : Str} {N : List Str} {g : TG} {te : TE} {ws : List Nat} {t : TS} (h : spStart K vs H Q E)
    (hc : ∀ (i : Int) (δ : DS), ∃ js, (∀ j ∈ js, j ∈ ws) ∧ GD (quietW K) g (.int i) (wipeD (List.replicate (N.length + 2) none) ws) js fun δ2 => EvD (quietW K) te δ2 fun z => ∃ k, z = .int k ∧ 0 ≤ k)
    (ht : ∀ cs : List Int, cs.length ≤ 63 → (∀ n ∈ cs, 0 ≤ n) → SD (quietW K) t (none :: some (.lst (cs.map D.int)) :: List.replicate N.length none) (fun _ => False) (fun d => ∃ cs, GoodC cs ∧ d = .lst [.lst (cs.map D.int), .int 0, .int 0]) (fun _ => False) (fun _ => False)) {y : Str} :
    tSeq (tAsg (tLc (iSeq K (tSl (rSlL K) (tVar 0) tNoPart (tPart (tC (.int 63))))) g tYes te ws) (gName 1)) t { nx := fun _ H' => Q .non H', rt := Q } (L2.start (x :: y :: N) vs) H := by
  obtain ⟨a, ns, rfl, hS, hl, q⟩ := h
  have hst : L2.start (x :: y :: N) [V.ref a] = some (.ref a) :: none :: List.replicate N.length none := by
    simp [L2.start, List.replicate_succ]
  rw [hst]
  have g0 : ∀ H : Hp, StOk (quietW K) H := fun H s e => by cases e
  have nS : ∀ a, ¬ (quietW K).S a := fun a e => Wd.noS rfl e
  have p0 : Pre (quietW K) (fun _ => False) (List.replicate (N.length + 2) none) (some (.ref a) :: none :: List.replicate N.length none) H :=
    ⟨⟨g0 H, fun a e => (nS a e).elim, fun a m => m.elim⟩, by simp, fun i d hd => by
      have := List.mem_of_getElem? hd
      rw [List.mem_replicate] at this
      cases this.2⟩
  show tLc (iSeq K (tSl (rSlL K) (tVar 0) tNoPart (tPart (tC (.int 63))))) g tYes te ws (some (.ref a) :: none :: List.replicate N.length none) H (fun x H1 => gName 1 x (some (.ref a) :: none :: List.replicate N.length none) H1 (fun σ' H' => t { nx := fun _ H' => Q .non H', rt := Q } σ' H'))
  have hL : Evl.EvL (tSl (rSlL K) (tVar 0) tNoPart (tPart (tC (.int 63)))) (some (V.ref a) :: none :: List.replicate N.length none) H (cutV (ns.map V.int) none (some 63)) :=
    Evl.el_sl (Evl.ev_var (i := 0) (v := .ref a) rfl) Evl.eo_none (Evl.eo_some (i := 63) Evl.ev_c) hS
  refine ev_lcF1 (W := quietW K) (P := fun ds => ∃ cs : List Int, ds = cs.map D.int ∧ cs.length ≤ 63 ∧ ∀ n ∈ cs, 0 ≤ n) p0 (fun R hR => Or.inl ?_) (fun x H1 => gName 1 x (some (.ref a) :: none :: List.replicate N.length none) H1 (fun σ' H' => t { nx := fun _ H' => Q .non H', rt := Q } σ' H')) (fun b us ds H' gg k hn nm hv r hP => ?_)
  · refine hL H (Evl.Ex.refl H) _ fun p H2 hp e2 h2 => ⟨p, rfl, ⟨_, Evl.sq_of h2⟩, ?_⟩
    obtain ⟨ys, hy, ly⟩ : ∃ ys : List Int, cutV (ns.map V.int) none (some 63) = ys.map V.int ∧ ys.length ≤ 63 := by
      unfold cutV
      rw [← List.map_drop, ← List.map_take]
      refine ⟨_, rfl, ?_⟩
      rw [List.length_take, List.length_drop]
      omega
    rw [hy] at h2
    have rI : ∀ (M : Addr → Prop) (H : Hp) (l : List Int), Reps (quietW K) M H (l.map V.int) (l.map D.int) := fun M H l => by
      induction l with
      | nil => exact .nil
      | cons i l ih => exact .cons (.int i) ih
    refine hR _ H2 (ys.map D.int) (g0 H2) (fun a o _ h => e2 a o h) ⟨by rw [List.length_map]; omega, fun i acc => ∃ cs : List Int, acc = cs.map D.int ∧ cs.length ≤ i ∧ ∀ n ∈ cs, 0 ≤ n, ⟨[], rfl, Nat.le_refl 0, fun _ h => by cases h⟩, fun i d acc hd hI => ?_, fun acc hI => ?_⟩ (src_lst ⟨g0 H2, fun a e => (nS a e).elim, fun a m => m.elim⟩ (fun m => m) h2 (rI _ _ ys))
    · obtain ⟨cs, rfl, hcl, hcn⟩ := hI
      rw [List.getElem?_map] at hd
      cases hz : ys[i]? with
      | none => rw [hz] at hd; cases hd
      | some z =>
        rw [hz] at hd
        cases hd
        obtain ⟨js, hj, hg⟩ := hc z []
        refine ⟨js, hj, fun M σ H v pp r Q q => hg M σ H v pp r Q fun σ' δ' p' e' w' => q σ' δ' p' (et_yes ⟨fun _ => ev_mono e' fun z hz => ?_, fun z => by cases z⟩) w'⟩
        obtain ⟨k, rfl, hk⟩ := hz
        refine ⟨cs ++ [k], by rw [List.map_append]; rfl, by rw [List.length_append]; show cs.length + 1 ≤ i + 1; omega, fun n hn => ?_⟩
        rcases List.mem_append.mp hn with hn | hn
        · exact hcn n hn
        · rw [List.mem_singleton.mp hn]
          exact hk
    · obtain ⟨cs, rfl, hcl, hcn⟩ := hI
      exact ⟨cs, rfl, by rw [List.length_map] at hcl; omega, hcn⟩
  · obtain ⟨cs, rfl, lc, nc⟩ := hP
    have rr : Reps (quietW K) (fun _ => False) H' us (cs.map D.int) := r.anti fun _ z => z.elim
    have eU := ints_flat rr
    subst eU
    refine ht cs lc nc (fun _ => False) H' (fun _ => False) _ H' _ ⟨⟨gg, fun a e => (nS a e).elim, fun a m => m.elim⟩, ?_⟩ ⟨Keep.refl _, fun _ z => z, fun _ z w => absurd z w⟩ ⟨fun _ _ _ _ _ _ z => z.elim, fun v d H2 _ kk rv e => ?_, fun _ _ _ _ _ _ z => z.elim, fun _ _ _ _ _ _ z => z.elim, fun _ _ _ _ _ _ _ _ _ _ z => z.elim⟩
    · refine ⟨by simp, fun i d hd => ?_⟩
      match i with
      | 0 => cases hd
      | 1 =>
        cases hd
        exact ⟨.ref b, rfl, .lst nm hv rr⟩
      | i + 2 =>
        have hd' : (List.replicate N.length (none : Option D))[i]? = some (some d) := hd
        have := List.mem_of_getElem? hd'
        rw [List.mem_replicate] at this
        cases this.2
    · obtain ⟨cs2, gc, rfl⟩ := e
      cases rv with
      | @lst s vs _ ns2 hs rs =>
      cases rs with
      | cons r1 rs =>
      cases rs with
      | cons r2 rs =>
      cases rs with
      | cons r3 rs =>
      cases rs
      cases r2
      cases r3
      cases r1 with
      | @lst b2 us2 _ nb hb rb =>
      have eb := ints_flat rb
      subst eb
      refine q H2 s b2 cs2 (fun x o hx => kk x o (nS x) (k x o (nS x) hx)) (fun z => ?_) gc hs hb
      subst z
      rw [hb] at hs
      obtain ⟨l1, _⟩ := gc
      cases cs2 with
      | nil => cases hs
      | cons c cs2 => cases hs
/-- a law that draws by a pick: its beginning -/
theorem law_bodyP {K : PySem.W.Frag} {vs : List V} {H : Hp} {Q : VK} {E E' : XK} {x y : Str} {N : List Str} {t : TS} (h : spLaw K vs H Q E)
    (hr : ∀ W, W.K = K → SO W WF t [] (none :: some .st :: List.replicate N.length none) (fun _ _ => False) (fun d => d = .bl true) (fun _ _ => False) (fun _ _ => False) XN) :
    tSeq (tAsg (tCall (spStart K) [] E' (tCons (tVar 0) tNil)) (gName 1)) t { nx := fun _ H' => Q .non H', rt := Q } (L2.start (x :: y :: N) vs) H := by
  obtain ⟨a, ns, rfl, hS, hl, q⟩ := h
  refine ⟨.ref a, rfl, a, ns, rfl, hS, hl, fun H' s b cs hk hb gc h2 h3 => ?_⟩
  let W : Wd := ⟨K, some s, b⟩
  have g : StOk W H' := fun s' e => by
    cases e
    exact ⟨cs, 0, 0, (), h2, hb, h3, by decide, by decide, gc.1, gc.2.1, gc.2.2⟩
  have hst : L2.start (x :: y :: N) [V.ref a] = some (.ref a) :: none :: List.replicate N.length none := by
    simp [L2.start, List.replicate_succ]
  have sl : Slots W (fun p => p = s ∨ p = b) H' ((L2.start (x :: y :: N) [V.ref a]).set 1 (some (.ref s))) (none :: some .st :: List.replicate N.length none) := by
    rw [hst]
    refine ⟨by simp, fun i d hd => ?_⟩
    match i with
    | 0 => cases hd
    | 1 =>
      cases hd
      exact ⟨.ref s, rfl, .st rfl⟩
    | i + 2 =>
      have hd' : (List.replicate N.length (none : Option D))[i]? = some (some d) := hd
      have := List.mem_of_getElem? hd'
      rw [List.mem_replicate] at this
      cases this.2
  have dom : ∀ p, (p = s ∨ p = b) → ∃ o, H' p = some o := fun p e => by
    rcases e with rfl | rfl
    · exact ⟨_, h2⟩
    · exact ⟨_, h3⟩
  refine hr W rfl (fun p => p = s ∨ p = b) H' (fun p => p = s ∨ p = b) H' (fun p => p = s ∨ p = b) _ H' _ dom ⟨⟨g, fun p e => (by
    rcases e with e | ⟨_, e⟩
    · cases e; exact .inl rfl
    · exact .inr e), dom⟩, sl⟩ (fun a ds m => by cases m) ⟨Ent.refl _ _, EntM.refl _ _⟩
    ⟨fun _ _ _ _ _ _ _ _ z => z.elim, fun v d H2 _ _ r e => ?_, fun _ _ _ _ _ _ _ _ z => z.elim, fun _ _ _ _ _ _ _ _ z => z.elim, fun _ _ _ _ _ _ _ _ _ _ z => z.elim⟩
  subst e
  cases r
  exact q H2
end PD
namespace PD
open PySem PySem.Spec PyProof.Rows L2
open PDX PDI PDT
theorem kind_len {k : Str} {l : List Int} (hk : kindLen.lookup k = some ((l.length : Int) + 1)) : (kindLen.lookup k = some 3 ∧ ∃ a b, l = [a, b]) ∨ (kindLen.lookup k ≠ some 3 ∧ ((∃ a, l = [a]) ∨ k = "piece" ∧ ∃ g i j r c, l = [g, i, j, r, c])) := by
  have two : (l.length : Int) + 1 = 3 → ∃ a b, l = [a, b] := fun h => by
    obtain _ | ⟨a, _ | ⟨b, _ | ⟨_, _⟩⟩⟩ := l <;> simp only [List.length_cons, List.length_nil] at h <;> first | omega | exact ⟨_, _, rfl⟩
  have one : (l.length : Int) + 1 = 2 → ∃ a, l = [a] := fun h => by
    obtain _ | ⟨a, _ | ⟨b, _⟩⟩ := l <;> simp only [List.length_cons, List.length_nil] at h <;> first | omega | exact ⟨_, rfl⟩
  have five : (l.length : Int) + 1 = 6 → ∃ g i j r c, l = [g, i, j, r, c] := fun h => by
    obtain _ | ⟨g, _ | ⟨i, _ | ⟨j, _ | ⟨r, _ | ⟨c, _ | ⟨_, _⟩⟩⟩⟩⟩⟩ := l <;> simp only [List.length_cons, List.length_nil] at h <;> first | omega | exact ⟨_, _, _, _, _, rfl⟩
  rcases kind_cases hk with ⟨h, e⟩ | ⟨h, e⟩ | ⟨h, e⟩ | ⟨h, e⟩ | ⟨h, e⟩ | ⟨h, e⟩ | ⟨h, e⟩ <;> rw [e] at hk
  · exact .inl ⟨hk, two e⟩
  · exact .inl ⟨hk, two e⟩
  · exact .inr ⟨by rw [hk]; decide, .inl (one e)⟩
  · exact .inl ⟨hk, two e⟩
  · exact .inl ⟨hk, two e⟩
  · exact .inr ⟨by rw [hk]; decide, .inr ⟨h, five e⟩⟩
  · exact .inr ⟨by rw [hk]; decide, .inl (one e)⟩
def isSt (x : D) : Prop := ∃ k l, x = stD k l ∧ kindLen.lookup k = some ((l.length : Int) + 1) ∧ ∀ i ∈ l, 0 ≤ i ∧ i ≤ 1000
theorem isSt_nref {x : D} (h : isSt x) : x.nref = true := by
  obtain ⟨k, l, rfl, _⟩ := h
  refine nref_tup fun y hy => ?_
  rcases List.mem_cons.mp hy with rfl | hy
  · rfl
  · obtain ⟨i, _, rfl⟩ := List.mem_map.mp hy
    rfl
theorem isSt_gd (K : PySem.W.Frag) {x : D} (h : isSt x) : Gd K x ∧ x.len ≤ 6 := by
  obtain ⟨k, l, rfl, hk, hl⟩ := h
  have l5 : l.length ≤ 5 := by
    rcases kind_cases hk with ⟨_, h⟩ | ⟨_, h⟩ | ⟨_, h⟩ | ⟨_, h⟩ | ⟨_, h⟩ | ⟨_, h⟩ | ⟨_, h⟩ <;> omega
  have ll : (D.str k :: l.map D.int).length ≤ 6 := by
    rw [List.length_cons, List.length_map]
    omega
  refine ⟨Gd.tup (fun y hy => ?_) (by omega), by show (((D.str k :: l.map D.int).length : Nat) : Int) ≤ 6; omega⟩
  rcases List.mem_cons.mp hy with rfl | hy
  · exact ⟨by simp only [Jd], by simp only [D.slim]⟩
  · obtain ⟨i, hi, rfl⟩ := List.mem_map.mp hy
    have := hl i hi
    exact Gd.int K (by omega)
def okSh (p : Sh) : Prop := 1 ≤ p.1 ∧ p.1 ≤ 12 ∧ 1 ≤ p.2 ∧ p.2 ≤ 12
theorem small_ok {o : Option Sh} {q : Sh} (h : small12 o = some q) : o = some q ∧ q.1 ≤ 12 ∧ q.2 ≤ 12 := by
  unfold small12 at h
  split at h
  · cases h
  · split at h
    · cases h
    · cases h
      exact ⟨rfl, by omega, by omega⟩
theorem made_turned {shs : List Sh} {g : Int} (h0 : 0 ≤ g) (h1 : g < shs.length) (ok : ∀ p ∈ shs, okSh p) : madeD shs (stD "turned" [g]) = some ((shAt shs g).2, (shAt shs g).1) := by
  have hm : shAt shs g ∈ shs := by
    unfold shAt
    have lt : g.toNat < shs.length := by omega
    simp [lt]
  have := ok _ hm
  unfold okSh at this
  unfold madeD
  have hk : kindLen.lookup ("turned" : Str) = some ((([g] : List Int).length : Int) + 1) := rfl
  rw [stepOf_stD hk]
  have e : (srcs "turned" [g]).all (okSrc shs.length) = true := by
    have : okSrc shs.length g = true := by
      unfold okSrc
      rw [decide_eq_true h0, decide_eq_true h1]
      rfl
    show (okSrc shs.length g && true) = true
    rw [this]
    rfl
  show (if (srcs "turned" [g]).all (okSrc shs.length) then small12 (some ((shAt shs g).2, (shAt shs g).1)) else none) = _
  rw [if_pos e]
  show (if 12 < max (shAt shs g).2 (shAt shs g).1 then none else some ((shAt shs g).2, (shAt shs g).1)) = _
  rw [if_neg (by omega)]
theorem made_okSh {shs : List Sh} {x : D} {q : Sh} (ok : ∀ p ∈ shs, okSh p) (h : madeD shs x = some q) : okSh q := by
  unfold madeD at h
  cases e : stepOf x with
  | none => rw [e] at h; cases h
  | some p =>
    obtain ⟨k, l⟩ := p
    obtain ⟨rfl, hk⟩ := stepOf_some e
    rw [e] at h
    simp only at h
    split at h
    · rename_i hall
      obtain ⟨hf, s1, s2⟩ := small_ok h
      have mem : ∀ v, okSrc shs.length v = true → okSh (shAt shs v) := fun v hv => by
        unfold okSrc at hv
        simp only [Bool.and_eq_true, decide_eq_true_eq] at hv
        have lt : v.toNat < shs.length := by omega
        refine ok _ ?_
        unfold shAt
        simp [lt]
      have one : okSh (shAt shs (l.getD 0 0)) := by
        rcases kind_len hk with ⟨h3, a, b, rfl⟩ | ⟨h3, ⟨a, rfl⟩ | ⟨_, g, i, j, r, c, rfl⟩⟩
        · unfold srcs at hall
          rw [if_pos h3] at hall
          exact mem a (List.all_eq_true.mp hall a (by simp))
        · unfold srcs at hall
          rw [if_neg h3] at hall
          exact mem a (List.all_eq_true.mp hall a (by simp))
        · unfold srcs at hall
          rw [if_neg h3] at hall
          exact mem g (List.all_eq_true.mp hall g (by simp))
      have two : kindLen.lookup k = some 3 → okSh (shAt shs (l.getD 1 0)) := fun h3 => by
        rcases kind_len hk with ⟨_, a, b, rfl⟩ | ⟨n3, _⟩
        · unfold srcs at hall
          rw [if_pos h3] at hall
          exact mem b (List.all_eq_true.mp hall b (by simp))
        · exact absurd h3 n3
      generalize shAt shs (l.getD 0 0) = o1 at hf one
      generalize shAt shs (l.getD 1 0) = o2 at hf two
      obtain ⟨a, b⟩ := o1
      obtain ⟨c, d⟩ := o2
      obtain ⟨q1, q2⟩ := q
      unfold okSh at one two ⊢
      rcases kind_cases hk with ⟨rfl, hn⟩ | ⟨rfl, hn⟩ | ⟨rfl, hn⟩ | ⟨rfl, hn⟩ | ⟨rfl, hn⟩ | ⟨rfl, hn⟩ | ⟨rfl, hn⟩
      · have hf : (if (a, b) = (c, d) then some (a, b) else none) = some (q1, q2) := hf
        split at hf
        · cases hf
          exact one
        · cases hf
      · have two := two rfl
        have hf : (if b = c then some (a, d) else none) = some (q1, q2) := hf
        split at hf
        · cases hf
          simp only at *
          omega
        · cases hf
      · have hf : some (b, a) = some (q1, q2) := hf
        cases hf
        simp only at *
        omega
      · have two := two rfl
        have hf : (if a = c then some (a, b + d) else none) = some (q1, q2) := hf
        split at hf
        · cases hf
          simp only at *
          omega
        · cases hf
      · have two := two rfl
        have hf : (if b = d then some (a + c, b) else none) = some (q1, q2) := hf
        split at hf
        · cases hf
          simp only at *
          omega
        · cases hf
      · rcases kind_len hk with ⟨h3, _⟩ | ⟨_, ⟨g, rfl⟩ | ⟨_, g, i, j, r, ee, rfl⟩⟩
        · cases h3
        · simp at hn
        · have hf : (if min i j < 0 ∨ min r ee < 1 then none else if a < i + r ∨ b < j + ee then none else some (r, ee)) = some (q1, q2) := hf
          split at hf
          · cases hf
          · split at hf
            · cases hf
            · cases hf
              simp only at *
              omega
      · have hf : (if a = b then some (a, b) else none) = some (q1, q2) := hf
        split at hf
        · cases hf
          exact one
        · cases hf
    · cases h
theorem runS_snoc {x : D} {cur : List Sh} {q : Sh} (hq : madeD cur x = some q) : ∀ {xs : List D} {shs : List Sh} {k : Nat}, runS shs xs k = .inl cur → runS shs (xs ++ [x]) k = .inl (cur ++ [q])
  | [], shs, k, h => by
    cases h
    show runS cur [x] k = _
    unfold runS
    rw [hq]
    rfl
  | y :: xs, shs, k, h => by
    rw [List.cons_append]
    unfold runS at h ⊢
    cases e : madeD shs y with
    | none => rw [e] at h; cases h
    | some p =>
      rw [e] at h
      exact runS_snoc hq h
abbrev vecD (l : List Int) : D := .lst (l.map D.int)
def OkB (bs : List Int) : Prop := 1 ≤ bs.length ∧ bs.length ≤ 3 ∧ ∀ b ∈ bs, 1 ≤ b ∧ b ≤ 4
/-- x twelfths are m parts of b, m at most so great -/
def Pt (b most x : Int) : Prop := ∃ m : Int, x * b = 12 * m ∧ -most ≤ m ∧ m ≤ most
def Vec (bs : List Int) (most : Int) (v : List Int) : Prop := v.length = bs.length ∧ ∀ (k : Nat) (b x : Int), bs[k]? = some b → v[k]? = some x → Pt b most x
def PtC (x : Int) : Prop := ∃ b, 1 ≤ b ∧ b ≤ 4 ∧ Pt b 3 x
def CellP (n : Nat) (c : D) : Prop := c = .non ∨ ∃ v : List Int, c = vecD v ∧ v.length = n ∧ ∀ x ∈ v, PtC x
def RowP (n w : Nat) (r : D) : Prop := ∃ cs, r = .lst cs ∧ cs.length = w ∧ ∀ c ∈ cs, CellP n c
def GridP (n : Nat) (g : D) : Prop := ∃ (rows : List D) (w : Nat), g = .lst rows ∧ 1 ≤ rows.length ∧ rows.length ≤ 3 ∧ 1 ≤ w ∧ w ≤ 3 ∧ ∀ r ∈ rows, RowP n w r
def lowOk (x : Int) : Bool := decide (1 ≤ (lowF x 12).2) && decide ((lowF x 12).2 ≤ 4) && decide ((lowF x 12).1.natAbs ≤ 6)
def ptB (x : Int) : Bool := (decide (x % 12 = 0) && decide (x.natAbs ≤ 36)) || (decide (x % 6 = 0) && decide (x.natAbs ≤ 18)) || (decide (x % 4 = 0) && decide (x.natAbs ≤ 12)) || (decide (x % 3 = 0) && decide (x.natAbs ≤ 9))
theorem ptB_of {x : Int} (h : PtC x) : ptB x = true := by
  obtain ⟨b, b1, b4, m, e, m1, m2⟩ := h
  have : b = 1 ∨ b = 2 ∨ b = 3 ∨ b = 4 := by omega
  unfold ptB
  simp only [Bool.or_eq_true, Bool.and_eq_true, decide_eq_true_eq]
  rcases this with rfl | rfl | rfl | rfl <;> omega
theorem ptB_all : ∀ k : Fin 73, ptB ((k.val : Int) - 36) = true → lowOk ((k.val : Int) - 36) = true := by decide +kernel
theorem low_ok {x : Int} (h : PtC x) : IsF (lowF x 12) ∧ (lowF x 12).1.natAbs ≤ 6 ∧ (lowF x 12).2 ≤ 4 := by
  have hb := ptB_of h
  have hx : x.natAbs ≤ 36 := by
    unfold ptB at hb
    simp only [Bool.or_eq_true, Bool.and_eq_true, decide_eq_true_eq] at hb
    omega
  have e : x = (((x + 36).toNat : Nat) : Int) - 36 := by omega
  have := ptB_all ⟨(x + 36).toNat, by omega⟩
  simp only at this
  rw [← e] at this
  have := this hb
  unfold lowOk at this
  simp only [Bool.and_eq_true, decide_eq_true_eq] at this
  exact ⟨lowF_isF (by decide), this.2, this.1.2⟩
def cellU : D → D
  | .lst xs => un (xs.map fun x => lowF x.toI 12)
  | _ => .non
def rowU : D → D
  | .lst cs => .tup (cs.map cellU)
  | _ => .tup []
def gridU : D → List D
  | .lst rows => rows.map rowU
  | _ => []
theorem cellU_vec (v : List Int) : cellU (vecD v) = un (v.map fun x => lowF x 12) := by
  show un ((v.map D.int).map fun x => lowF x.toI 12) = _
  rw [List.map_map]
  rfl
theorem CellP.cl {n : Nat} {c : D} (h : CellP n c) : isCl (n : Int) (cellU c) = true := by
  rcases h with rfl | ⟨v, rfl, hl, hv⟩
  · rfl
  · rw [cellU_vec]
    refine cl_un (by rw [List.length_map, hl]) fun p hp => ?_
    obtain ⟨x, hx, rfl⟩ := List.mem_map.mp hp
    exact low_ok (hv x hx)
theorem GridP.grd {n : Nat} {g : D} (h : GridP n g) (n1 : 1 ≤ n) (n3 : n ≤ 3) : ∃ w, Grd (n : Int) w (gridU g) ∧ w ≤ 3 ∧ 1 ≤ w ∧ (gridU g).length ≤ 3 := by
  obtain ⟨rows, w, rfl, r1, r3, w1, w3, hr⟩ := h
  refine ⟨w, ⟨by omega, by omega, by unfold gridU; rw [List.length_map]; omega, by unfold gridU; rw [List.length_map]; omega, w1, by omega, fun e he => ?_⟩, w3, w1, by unfold gridU; rw [List.length_map]; omega⟩
  obtain ⟨r, hrm, rfl⟩ := List.mem_map.mp he
  obtain ⟨cs, rfl, hl, hc⟩ := hr r hrm
  refine ⟨_, rfl, by rw [List.length_map, hl], fun c hc' => ?_⟩
  obtain ⟨c0, h0, rfl⟩ := List.mem_map.mp hc'
  exact (hc c0 h0).cl
def lenL : D → Int
  | .lst xs => xs.length
  | _ => 0
/-- rows and columns of drawn rows -/
def shL : D → Sh
  | .lst rows => (rows.length, lenL (rows.headD .non))
  | _ => (0, 0)
theorem GridP.sh {n : Nat} {g : D} (h : GridP n g) (C : Addr) (k : Int) : shG (gd C k (gridU g)) = shL g ∧ okSh (shL g) ∧ (shL g).1 ≤ 3 ∧ (shL g).2 ≤ 3 := by
  obtain ⟨rows, w, rfl, r1, r3, w1, w3, hr⟩ := h
  cases rows with
  | nil => simp at r1
  | cons r rows =>
    obtain ⟨cs, rfl, hl, _⟩ := hr r List.mem_cons_self
    have e : shG (gd C k (gridU (.lst (.lst cs :: rows)))) = (((rows.length + 1 : Nat) : Int), ((cs.length : Nat) : Int)) := by
      show ((((rowU (.lst cs) :: rows.map rowU).length : Nat) : Int), D.len (rowU (.lst cs))) = _
      rw [List.length_cons, List.length_map]
      show (((rows.length + 1 : Nat) : Int), (((cs.map cellU).length : Nat) : Int)) = _
      rw [List.length_map]
    have e2 : shL (.lst (.lst cs :: rows)) = (((rows.length + 1 : Nat) : Int), ((cs.length : Nat) : Int)) := rfl
    rw [List.length_cons] at r3
    refine ⟨by rw [e, e2], ?_, ?_, ?_⟩ <;> rw [e2]
    · unfold okSh
      simp only
      omega
    · simp only
      omega
    · simp only
      omega
/-- what a law's own look says of a step, the grids that it names being there -/
def lawFit (k : Str) (l : List Int) (one other : Sh) : Option Sh :=
  if k = "piece" then some (l.getD 3 0, l.getD 4 0) else fitD k l one other
theorem lawFit_made {shs : List Sh} {k : Str} {l : List Int} {q : Sh} (hk : kindLen.lookup k = some ((l.length : Int) + 1)) (h : madeD shs (stD k l) = some q) : lawFit k l (shAt shs (l.getD 0 0)) (shAt shs (l.getD 1 0)) = some q ∧ (srcs k l).all (okSrc shs.length) = true := by
  unfold madeD at h
  rw [stepOf_stD hk] at h
  simp only at h
  split at h
  · rename_i ha
    obtain ⟨hf, _⟩ := small_ok h
    refine ⟨?_, ha⟩
    unfold lawFit
    split
    · rename_i e
      subst e
      rcases kind_len hk with ⟨h3, _⟩ | ⟨_, ⟨a, rfl⟩ | ⟨_, g, i, j, r, c, rfl⟩⟩
      · cases h3
      · rcases kind_cases hk with ⟨h, _⟩ | ⟨h, _⟩ | ⟨h, _⟩ | ⟨h, _⟩ | ⟨h, _⟩ | ⟨_, h⟩ | ⟨h, _⟩ <;> first | cases h | (simp at h)
      · have hf : pieceD i j r c (shAt shs g) = some q := hf
        unfold pieceD at hf
        split at hf
        · cases hf
        · split at hf
          · cases hf
          · cases hf
            rfl
    · exact hf
  · cases h
/-- a step that the look lets, not too great, is one -/
theorem made_lawFit {shs : List Sh} {k : Str} {l : List Int} {q : Sh} (hk : kindLen.lookup k = some ((l.length : Int) + 1)) (np : k ≠ "piece") (ha : (srcs k l).all (okSrc shs.length) = true) (h : lawFit k l (shAt shs (l.getD 0 0)) (shAt shs (l.getD 1 0)) = some q) (h1 : q.1 ≤ 12) (h2 : q.2 ≤ 12) : madeD shs (stD k l) = some q := by
  unfold madeD
  rw [stepOf_stD hk]
  simp only
  rw [if_pos ha]
  unfold lawFit at h
  rw [if_neg np] at h
  rw [h]
  unfold small12
  simp only
  rw [if_neg (by omega)]
theorem made_piece {shs : List Sh} {g i j r c : Int} (h0 : 0 ≤ g) (h1 : g < shs.length) (hi : 0 ≤ i) (hj : 0 ≤ j) (hr : 1 ≤ r) (hc : 1 ≤ c) (hir : i + r ≤ (shAt shs g).1) (hjc : j + c ≤ (shAt shs g).2) (s1 : (shAt shs g).1 ≤ 12) (s2 : (shAt shs g).2 ≤ 12) : madeD shs (stD "piece" [g, i, j, r, c]) = some (r, c) := by
  have hk : kindLen.lookup ("piece" : Str) = some ((([g, i, j, r, c] : List Int).length : Int) + 1) := rfl
  unfold madeD
  rw [stepOf_stD hk]
  have e : (srcs "piece" [g, i, j, r, c]).all (okSrc shs.length) = true := by
    have : okSrc shs.length g = true := by
      unfold okSrc
      rw [decide_eq_true h0, decide_eq_true h1]
      rfl
    show (okSrc shs.length g && true) = true
    rw [this]
    rfl
  show (if (srcs "piece" [g, i, j, r, c]).all (okSrc shs.length) then small12 (pieceD i j r c (shAt shs g)) else none) = _
  rw [if_pos e]
  unfold pieceD
  rw [if_neg (by omega), if_neg (by omega)]
  unfold small12
  simp only
  rw [if_neg (by omega)]
/-- a drawn world -/
structure WorldP (n : Nat) (gs xs : List D) (r : List Sh) : Prop where
  n1 : 1 ≤ n
  n3 : n ≤ 3
  g : ∀ e ∈ gs, GridP n e
  g1 : 1 ≤ gs.length
  g3 : gs.length ≤ 3
  x : ∀ e ∈ xs, isSt e
  x8 : xs.length ≤ 8
  run : runS (gs.map shL) xs 0 = .inl r
abbrev worldD (n : Nat) (gs xs : List D) (r : List Sh) : D := .lst [.int n, .lst gs, .lst xs, .lst (r.map shD)]
end PD
namespace PD
open PySem PySem.Spec PyProof.Rows L2
open PDX PDI PDT
/-- items told one by one -/
theorem all_maps {α : Type} {f : α → D} {Q : α → Prop} : ∀ {l : List D}, (∀ y ∈ l, ∃ a, y = f a ∧ Q a) → ∃ as : List α, l = as.map f ∧ ∀ a ∈ as, Q a
  | [], _ => ⟨[], rfl, fun _ h => by cases h⟩
  | y :: l, h => by
    obtain ⟨a, rfl, ha⟩ := h y List.mem_cons_self
    obtain ⟨as, rfl, hs⟩ := all_maps (l := l) fun z hz => h z (List.mem_cons_of_mem _ hz)
    exact ⟨a :: as, rfl, fun b hb => (List.mem_cons.mp hb).elim (fun z => z ▸ ha) (hs b)⟩
section
variable {W : Wd} {Wx : WX} {X : XV → DS → Prop} {ω : Om} {δ : DS} {N : Om → DS → Prop} {R : D → Prop} {B C : Om → DS → Prop} {te : TE}
/-- what is made of lists of one's own is returned: they are one's own no more -/
theorem so_retA (h : EvL W te ω δ R) : SO W Wx (tRet te) ω δ N R B C X := fun M0 H0 M1 L1 M σ H E d0 p ow e o => by
  obtain ⟨p2, l2⟩ := own_lend p ow
  exact h _ σ H p2 l2 _ fun v d H1 g1 k1 r1 h1 => o.rt v d H1 g1 (e.e.k.trans k1) (r1.anti fun a m0 => ⟨e.e.m a m0, fun x hx z => (ow x.1 x.2 hx).2.1 (z ▸ m0)⟩) h1
end
theorem shAt_get {shs : List Sh} {g : Int} (h0 : 0 ≤ g) (h1 : g < shs.length) : (shs.map shD)[g.toNat]? = some (shD (shAt shs g)) ∧ shAt shs g ∈ shs := by
  have lt : g.toNat < shs.length := by omega
  constructor
  · rw [List.getElem?_map, List.getElem?_eq_getElem lt]
    unfold shAt
    simp [lt]
  · unfold shAt
    simp [lt]
theorem src_ok {n g : Int} (h : okSrc n g = true) : 0 ≤ g ∧ g < n := by
  unfold okSrc at h
  simpa using h
def sm4 (p : Sh) : Prop := 1 ≤ p.1 ∧ p.1 ≤ 4 ∧ 1 ≤ p.2 ∧ p.2 ≤ 4
def GoodSt (shs : List Sh) (e : D) : Prop := ∃ (k : Str) (l : List Int) (q : Sh), e = stD k l ∧ kindLen.lookup k = some ((l.length : Int) + 1) ∧ madeD shs e = some q ∧ sm4 q ∧ ∀ i ∈ l, 0 ≤ i ∧ i ≤ 1000
theorem sm4_ok {p : Sh} (h : sm4 p) : okSh p := by
  unfold sm4 at h
  unfold okSh
  omega
end PD
namespace PD
open PySem PySem.Spec PyProof.Rows L2
open PDX PDI PDT
/-- of each item something is known, by what it is made of -/
theorem ev_lcI {W : Wd} {δ : DS} {wi : TI} {g : TG} {te : TE} {vs : List Nat} {P : D → Prop} (G : D → D → Prop) (h : IterD W wi δ fun ds => ds.length ≤ 100000 ∧
    (∀ (i : Nat) (d : D), ds[i]? = some d → ∃ js, (∀ j ∈ js, j ∈ vs) ∧ GD W g d (wipeD δ vs) js fun δ2 => EvD W te δ2 (G d)) ∧ ∀ l : List D, l.length = ds.length → (∀ (i : Nat) (d y : D), ds[i]? = some d → l[i]? = some y → G d y) → P (.lst l)) : EvD W (tLc wi g tYes te vs) δ P :=
  ev_lc fun M σ H p R q => h M σ H p R fun J H1 ds g1 k1 ⟨hl, hs, hP⟩ => q J H1 ds g1 k1 ⟨hl, fun i acc => acc.length = i ∧ ∀ (j : Nat) (d y : D), ds[j]? = some d → acc[j]? = some y → G d y, ⟨rfl, fun j d y _ z => by simp at z⟩, fun i d acc hd ha => by
    obtain ⟨js, h1, h2⟩ := hs i d hd
    refine ⟨js, h1, fun M σ H v p r Q q => h2 M σ H v p r Q fun σ' δ' p' e' w' => q σ' δ' p' (et_yes ⟨fun _ => ev_mono e' fun z hz => ⟨?_, fun j d' y hd' hy => ?_⟩, fun z => by cases z⟩) w'⟩
    · rw [List.length_append, ha.1]
      rfl
    · rw [List.getElem?_append] at hy
      by_cases hj : j < acc.length
      · rw [if_pos hj] at hy
        exact ha.2 j d' y hd' hy
      · rw [if_neg hj] at hy
        have k0 : j - acc.length = 0 := by
          have := (List.getElem?_eq_some_iff.mp hy).1
          simp at this
          omega
        rw [k0] at hy
        cases hy
        have : j = i := by have := ha.1; omega
        subst this
        rw [hd] at hd'
        cases hd'
        exact hz, fun acc ha => hP acc ha.1 ha.2⟩
def CellV (c y : D) : Prop := (c = .non ∧ y = fr (0, 1)) ∨ (c.isNon = false ∧ ∃ q : Fr, y = fr q ∧ IsF q ∧ 0 < q.1 ∧ Sz 134 q)
def LineV (r y : D) : Prop := ∃ cs line, r = .lst cs ∧ y = .tup line ∧ line.length = cs.length ∧ ∀ (j : Nat) (c z : D), cs[j]? = some c → line[j]? = some z → CellV c z
def RowsV (g y : D) : Prop := ∃ rows V, g = .lst rows ∧ y = .tup V ∧ V.length = rows.length ∧ ∀ (i : Nat) (r z : D), rows[i]? = some r → V[i]? = some z → LineV r z
theorem cellU_non {n : Nat} {c : D} (h : CellP n c) : (cellU c).isNon = c.isNon := by
  rcases h with rfl | ⟨v, rfl, _⟩
  · rfl
  · rw [cellU_vec]
    rfl
theorem CellV.ok {n : Nat} {c y : D} (hc : CellP n c) (h : CellV c y) : ∃ q : Fr, y = fr q ∧ IsF q ∧ Sz 134 q ∧ numP (.tup [cellU c, y]) = true ∧ valP (.tup [cellU c, y]) = true := by
  rcases h with ⟨rfl, rfl⟩ | ⟨hn, q, rfl, iq, q0, sq⟩
  · exact ⟨(0, 1), rfl, ⟨by decide, by decide⟩, ⟨by decide, by decide⟩, by decide +kernel, by decide +kernel⟩
  · have e := cellU_non hc
    rw [hn] at e
    refine ⟨q, rfl, iq, sq, ?_, ?_⟩
    · simp only [numP, isFr_fr iq, e, Bool.not_false, Bool.true_or, Bool.and_self]
    · have : isPos (fr q) = true := by
        unfold isPos
        rw [isFr_fr iq]
        exact (Bool.true_and _).trans (decide_eq_true q0)
      simp only [valP, e, this, Bool.or_true]
theorem RowsV.nums {n : Nat} {g y : D} (hg : GridP n g) (h : RowsV g y) {w : Nat} (gr : Grd (n : Int) w (gridU g)) : ∃ V, y = .tup V ∧ Nums w 134 (gridU g) V ∧ (besD (gridU g) V).all valP = true := by
  obtain ⟨rows, V, rfl, rfl, lV, hV⟩ := h
  obtain ⟨rows', w', e, r1, r3, w1, w3, hr⟩ := hg
  cases e
  have at1 : ∀ (i : Nat) (z : D), V[i]? = some z → ∃ r cs line, rows[i]? = some r ∧ r = .lst cs ∧ z = .tup line ∧ line.length = w ∧ cs.length = w ∧ (∀ c ∈ cs, CellP n c) ∧ ∀ (j : Nat) (c z : D), cs[j]? = some c → line[j]? = some z → CellV c z := fun i z hz => by
    have hi := (List.getElem?_eq_some_iff.mp hz).1
    have er : rows[i]? = some rows[i] := List.getElem?_eq_getElem (by omega)
    obtain ⟨cs, line, e1, e2, l2, hc⟩ := hV i _ _ er hz
    obtain ⟨cs', e3, l3, hcp⟩ := hr _ (List.getElem_mem (by omega : i < rows.length))
    rw [e1] at e3 er
    cases e3
    obtain ⟨us, e4, l4, _⟩ := gr.at (i := i) (e := rowU (.lst cs)) (by unfold gridU; rw [List.getElem?_map, er]; rfl)
    cases e4
    rw [List.length_map] at l4
    exact ⟨_, cs, line, er, rfl, e2, by omega, l4, hcp, hc⟩
  have cell : ∀ (i j : Nat) (e r u z : D), (gridU (.lst rows))[i]? = some e → V[i]? = some r → (items e)[j]? = some u → (items r)[j]? = some z → ∃ c, CellP n c ∧ u = cellU c ∧ CellV c z := fun i j e r u z h1 h2 h3 h4 => by
    obtain ⟨r0, cs, line, hr0, rfl, rfl, _, _, hcp, hc⟩ := at1 i r h2
    unfold gridU at h1
    rw [List.getElem?_map, hr0] at h1
    cases h1
    have h3 : (cs.map cellU)[j]? = some u := h3
    rw [List.getElem?_map] at h3
    cases hcj : cs[j]? with
    | none => rw [hcj] at h3; cases h3
    | some c =>
      rw [hcj] at h3
      cases h3
      exact ⟨c, hcp c (List.mem_of_getElem? hcj), rfl, hc j c z hcj h4⟩
  refine ⟨V, rfl, ⟨⟨by unfold gridU; rw [List.length_map, lV], fun e he => ?_⟩, fun r hr y hy => ?_, bes_all fun i j e r u z h1 h2 h3 h4 => ?_⟩, bes_all fun i j e r u z h1 h2 h3 h4 => ?_⟩
  · obtain ⟨i, hi⟩ := List.mem_iff_getElem?.mp he
    obtain ⟨_, cs, line, _, _, rfl, l, _⟩ := at1 i e hi
    exact ⟨line, rfl, l⟩
  · obtain ⟨i, hi⟩ := List.mem_iff_getElem?.mp hr
    obtain ⟨r0, cs, line, hr0, rfl, rfl, l1, l2, hcp, hc⟩ := at1 i r hi
    obtain ⟨j, hj⟩ := List.mem_iff_getElem?.mp hy
    have hj : line[j]? = some y := hj
    have hl := (List.getElem?_eq_some_iff.mp hj).1
    have ec : cs[j]? = some cs[j] := List.getElem?_eq_getElem (by omega)
    obtain ⟨q, e, iq, sq, _⟩ := (hc j _ _ ec hj).ok (hcp _ (List.getElem_mem (by omega : j < cs.length)))
    exact ⟨q, e, iq, sq⟩
  · obtain ⟨c, hc, rfl, hv⟩ := cell i j e r u z h1 h2 h3 h4
    obtain ⟨q, _, _, _, np, _⟩ := hv.ok hc
    exact np
  · obtain ⟨c, hc, rfl, hv⟩ := cell i j e r u z h1 h2 h3 h4
    obtain ⟨q, _, _, _, _, vp⟩ := hv.ok hc
    exact vp
end PD
namespace PD
open PySem PySem.Spec PyProof.Rows L2
end PD
namespace PD
open PySem PySem.Spec PyProof.Rows L2
open PDX PDI PDT
theorem areV_of2 {m k : Nat} {xs rows : List D} (h : Nums m k xs rows) : areV m xs (.tup rows) = (besD xs rows).all valP := by
  unfold areV
  rw [h.areN, Bool.true_and]
  rfl
structure ChP (C : Addr) (n : Int) (k : Nat) (Gs Vs : List D) : Prop where
  l : Vs.length = Gs.length
  g : ∀ (i : Nat) (G V : D), Gs[i]? = some G → Vs[i]? = some V → ∃ w X rows, G = gd C n X ∧ V = .tup rows ∧ Grd n w X ∧ Nums w k X rows ∧ (besD X rows).all valP = true
theorem ChP.at {C : Addr} {n : Int} {k : Nat} {Gs Vs : List D} (h : ChP C n k Gs Vs) {i : Nat} {G : D} (hG : Gs[i]? = some G) : ∃ V w X rows, Vs[i]? = some V ∧ G = gd C n X ∧ V = .tup rows ∧ Grd n w X ∧ Nums w k X rows ∧ (besD X rows).all valP = true := by
  have hi := (List.getElem?_eq_some_iff.mp hG).1
  have hi2 : i < Vs.length := by have := h.l; omega
  have eV : Vs[i]? = some Vs[i] := List.getElem?_eq_getElem hi2
  obtain ⟨w, X, rows, a, b, c⟩ := h.g i G _ hG eV
  exact ⟨_, w, X, rows, eV, a, b, c⟩
end PD
namespace PD
open PySem PySem.Spec PyProof.Rows L2
open PDX PDI PDT
theorem Nums.lays {m k : Nat} {xs rows : List D} (h : Nums m k xs rows) : (D.tup rows).lays 3 = true := lays_tup fun r hr => by
  obtain ⟨cs, rfl, _⟩ := h.s.r r hr
  refine lays_tup fun y hy => ?_
  obtain ⟨q, rfl, _⟩ := h.n _ hr y hy
  exact lays_tup fun z hz => by
    simp only [List.mem_cons, List.not_mem_nil, or_false] at hz
    rcases hz with rfl | rfl <;> rfl
/-- values for a drawn world -/
def ValsP (gs vs : List D) : Prop := vs.length = gs.length ∧ ∀ (i : Nat) (g y : D), gs[i]? = some g → vs[i]? = some y → RowsV g y
theorem ValsP.ch {n : Nat} {gs vs : List D} (h : ValsP gs vs) (hg : ∀ g ∈ gs, GridP n g) (n1 : 1 ≤ n) (n3 : n ≤ 3) (C : Addr) : ChP C n 134 (gs.map fun g => gd C n (gridU g)) vs := by
  refine ⟨by rw [List.length_map]; exact h.1, fun i G V h1 h2 => ?_⟩
  rw [List.getElem?_map] at h1
  cases e : gs[i]? with
  | none => rw [e] at h1; cases h1
  | some g =>
    rw [e] at h1
    cases h1
    have hgp := hg g (List.mem_of_getElem? e)
    obtain ⟨w, gr, _⟩ := hgp.grd n1 n3
    obtain ⟨V, rfl, nn, vv⟩ := (h.2 i g V e h2).nums hgp gr
    exact ⟨w, _, V, rfl, rfl, gr, nn, vv⟩
end PD
namespace PDY
open PySem PySem.Spec PyProof.Rows L2 RZ PDZ
/-- an iterator, its list, what that holds, and what comes next -/
structure Cell where
  it : Addr
  l : Addr
  xs : Array Value
  u : Value
def tupAt (h : Heap) (T : Addr) (us : List Value) : Prop := h.get? T = some { cls := .type "tuple", data := .seq us.toArray }
structure Apart (z TI TO : Addr) (R : List Cell) : Prop where
  TIz : TI ≠ z
  TOz : TO ≠ z
  TITO : TI ≠ TO
  iz : ∀ c ∈ R, c.it ≠ z ∧ c.it ≠ TI ∧ c.it ≠ TO ∧ c.l ≠ z ∧ c.l ≠ TO
  nd : ∀ (j k : Nat) (c d : Cell), R[j]? = some c → R[k]? = some d → j ≠ k → c.it ≠ d.it
  li : ∀ c ∈ R, ∀ d ∈ R, c.l ≠ d.it
def KeptN (z TO : Addr) (R : List Cell) (h h' : Heap) : Prop := ∀ a o, a ≠ z → a ≠ TO → (∀ c ∈ R, a ≠ c.it) → h.get? a = some o → h'.get? a = some o
/-- how far the iterators are: the first k one further -/
def ItsAt (R : List Cell) (i k : Nat) (h : Heap) : Prop := ∀ (j : Nat) (c : Cell), R[j]? = some c → h.IsListIter c.it c.l (if j < k then i + 1 else i) ∧ h.IsList c.l c.xs
theorem ItsAt.turn {z TI TO : Addr} {R : List Cell} {i k : Nat} {h h' : Heap} (D : Apart z TI TO R) {c : Cell} (hc : R[k]? = some c) (t : ItsAt R i k h) (n : h'.IsListIter c.it c.l (i + 1)) (e : Heap.SameBut c.it h h') : ItsAt R i (k + 1) h' := fun j d hd => by
  obtain ⟨a, b⟩ := t j d hd
  have mc := List.mem_of_getElem? hc
  have md := List.mem_of_getElem? hd
  refine ⟨?_, b.extBut e.extBut (D.li d md c mc)⟩
  by_cases hj : j = k
  · subst hj
    rw [hc] at hd
    cases hd
    rw [if_pos (by omega)]
    exact n
  · have e1 : (if j < k + 1 then i + 1 else i) = (if j < k then i + 1 else i) := by
      split <;> split <;> omega
    rw [e1]
    exact a.extBut e.extBut (D.nd j k d c hd hc hj)
theorem ItsAt.off {R : List Cell} {i k : Nat} {h h' : Heap} (t : ItsAt R i k h) {a : Addr} (na : ∀ c ∈ R, c.it ≠ a ∧ c.l ≠ a) (e : Heap.SameBut a h h') : ItsAt R i k h' := fun j d hd => by
  obtain ⟨x, y⟩ := t j d hd
  have := na d (List.mem_of_getElem? hd)
  exact ⟨x.extBut e.extBut this.1, y.extBut e.extBut this.2⟩
section
variable {w : World} {prog : Program} {s : Shared} {A : Around} {E : Value → Shared → Prop}
theorem upd_tup {T : Addr} {us : List Value} {x : Value} {k : Nat} {Q : Unit → Shared → Prop} (hT : tupAt s.heap T us) (hl : us.length ≤ 1000)
    (h : ∀ h', tupAt h' T (us.set k x) → Heap.SameBut T s.heap h' → Q () { s with heap := h' }) : wpAny (model prog w) A (updateSeq T (·.setIfInBounds k x)) Q E s := by
  refine wpAny_updateSeq hT rfl (h _ ?_ (Heap.SameBut.update ..)) (hz := by rw [List.size_toArray]; exact Nat.le_trans hl (by decide)) (_hz' := by rw [Array.size_setIfInBounds, List.size_toArray]; exact Nat.le_trans hl (by decide))
  unfold tupAt
  rw [Heap.get?_update_self _ hT rfl]
  simp [Obj.mapSeq]
theorem drop_cons {R : List Cell} {k : Nat} {x : Value} {rest : List Value} (h : x :: rest = (R.drop k).map fun c => Value.ref c.it) : ∃ c, R[k]? = some c ∧ x = .ref c.it ∧ rest = (R.drop (k + 1)).map (fun c => Value.ref c.it) ∧ k < R.length := by
  have hk : k < R.length := by
    rcases Nat.lt_or_ge k R.length with h1 | h1
    · exact h1
    · rw [List.drop_of_length_le h1] at h
      cases h
  rw [List.drop_eq_getElem_cons hk, List.map_cons] at h
  injection h with a b
  exact ⟨R[k], List.getElem?_eq_getElem hk, a, b, hk⟩
theorem drop_consI {R : List Cell} {k : Nat} {x : Value × Nat} {rest : List (Value × Nat)} (h : x :: rest = ((R.drop k).map fun c => Value.ref c.it).zipIdx k) : ∃ c, R[k]? = some c ∧ x = (.ref c.it, k) ∧ rest = ((R.drop (k + 1)).map (fun c => Value.ref c.it)).zipIdx (k + 1) ∧ k < R.length := by
  have hk : k < R.length := by
    rcases Nat.lt_or_ge k R.length with h1 | h1
    · exact h1
    · rw [List.drop_of_length_le h1] at h
      cases h
  rw [List.drop_eq_getElem_cons hk, List.map_cons, List.zipIdx_cons] at h
  injection h with a b
  exact ⟨R[k], List.getElem?_eq_getElem hk, a, b, hk⟩
theorem drop_nilI {R : List Cell} {k : Nat} (h : [] = ((R.drop k).map fun c => Value.ref c.it).zipIdx k) : R.length ≤ k := by
  have := congrArg List.length h
  simp at this
  omega
theorem drop_nil {R : List Cell} {k : Nat} (h : [] = (R.drop k).map fun c => Value.ref c.it) : R.length ≤ k := by
  have := congrArg List.length h
  simp at this
  omega
theorem zip_itemN {z TI TO : Addr} {R : List Cell} {i : Nat} {v : Value} {f : Bool} {us : List Value} {Q : Value → Shared → Prop} (D : Apart z TI TO R) (hv : v = .none ∨ ∃ T : Addr, v = rawInt T) (ne : R ≠ [])
    (hz : zo s.heap z TI TO v f) (pI : tupAt s.heap TI (R.map fun c => .ref c.it)) (pO : tupAt s.heap TO us) (lO : us.length = R.length) (lR : R.length ≤ 1000) (t : ItsAt R i 0 s.heap) (gu : ∀ c ∈ R, c.xs[i]? = some c.u)
    (q : ∀ h' v' f' us', (v' = .none ∨ ∃ T : Addr, v' = rawInt T) → zo h' z TI TO v' f' → tupAt h' TO us' → us'.length = R.length → ItsAt R i R.length h' → tupAt h' s.heap.objs.size (R.map (·.u)) → h'.objs.size = s.heap.objs.size + 1 →
      KeptN z TO R s.heap h' → Q (.ref s.heap.objs.size) { s with heap := h' }) :
    wpAny (model prog w) A (Builtin.«zip.__next__» ⟨[.ref z], []⟩) (fun fin s' => ∃ u, fin = .done (.ret u) ∧ Q u s') E s := by
  refine wpAny_bind (m := field (.ref z) 2) (wpAny_field hz rfl (x := .bool false) rfl ?_)
  refine wpAny_bind (m := field (.ref z) 3) (wpAny_field hz rfl (x := .ref TI) rfl (wpAny_bind (wpAny_seqItems pI rfl ?_)))
  have en : ((R.map fun c => Value.ref c.it).toArray).isEmpty = false := by
    cases R with
    | nil => exact absurd rfl ne
    | cons a b => rfl
  simp only [en]
  refine wpAny_bind (m := Builtin.SmallTypes.ownedTupleIsFree (.ref z)) (zip_free hv hz fun free g f' hg gs => ?_)
  have gk : KeptN z TO R s.heap g := fun a o n1 _ _ e => gs.extBut _ _ n1 e
  have tg : ItsAt R i 0 g := t.off (fun c hc => ⟨(D.iz c hc).1, (D.iz c hc).2.2.2.1⟩) gs
  have oO : tupAt g TO us := gs.extBut _ _ D.TOz pO
  cases free with
  | false =>
    simp only [Bool.false_eq_true, if_false, ← Array.forIn_toList]
    refine wpAny_bind (wpAny_mono (wpAny_forIn_list _ (fun rest b s' => ∃ k h', k ≤ R.length ∧ rest = (R.drop k).map (fun c => Value.ref c.it) ∧ b = (none, ((R.take k).map (·.u)).toArray) ∧ s' = { s with heap := h' } ∧ zo h' z TI TO v f' ∧ tupAt h' TO us ∧ ItsAt R i k h' ∧ h'.objs.size = s.heap.objs.size ∧ KeptN z TO R s.heap h')
      (fun b s' => ∃ h', b = (none, (R.map (·.u)).toArray) ∧ s' = { s with heap := h' } ∧ zo h' z TI TO v f' ∧ tupAt h' TO us ∧ ItsAt R i R.length h' ∧ h'.objs.size = s.heap.objs.size ∧ KeptN z TO R s.heap h') ?_ ?_ _ _ ?_) ?_ fun _ _ h => h)
    · rintro x rest b s' ⟨k, h', kl, er, rfl, rfl, z1, o1, t1, sz, kk⟩
      obtain ⟨c, hc, rfl, er2, kl2⟩ := drop_cons er
      have mc := List.mem_of_getElem? hc
      have dc := D.iz c mc
      obtain ⟨a1, a2⟩ := t1 k c hc
      rw [if_neg (Nat.lt_irrefl k)] at a1
      refine wpAny_bind (wpAny_holding (wpAny_bind (m := Builtin.SmallTypes.nextOf (.ref c.it)) (wpAny_nextOf_list_item a1 a2 (gu c mc) fun h2 n2 e2 => wpAny_pure (wpAny_pure ?_))))
      refine ⟨k + 1, h2, kl2, er2, ?_, rfl, e2.extBut _ _ dc.1.symm z1, e2.extBut _ _ dc.2.2.1.symm o1, t1.turn D hc n2 e2, e2.1.trans sz, fun a o n1 n2 n3 e => e2.extBut _ _ (n3 c mc) (kk a o n1 n2 n3 e)⟩
      rw [List.take_add_one, hc]
      simp
    · rintro b s' ⟨k, h', kl, er, rfl, rfl, z1, o1, t1, sz, kk⟩
      have := drop_nil er
      have ek : k = R.length := by omega
      subst ek
      rw [List.take_length]
      exact ⟨h', rfl, rfl, z1, o1, t1, sz, kk⟩
    · exact ⟨0, g, Nat.zero_le _, by rw [List.drop_zero], by simp, rfl, hg, oO, tg, gs.1, gk⟩
    · rintro b s' ⟨h', rfl, rfl, z1, o1, t1, sz, kk⟩
      refine wpAny_bind (m := newTuple (R.map (·.u))) (wpAny_newTuple ?_ (by rw [List.length_map]; exact Nat.le_trans lR (by decide)))
      refine wpAny_pure ⟨_, rfl, ?_⟩
      have up : ∀ {c : Addr} {o : Obj}, h'.get? c = some o → (h'.push { cls := .type "tuple", data := .seq (R.map (·.u)).toArray }).get? c = some o := fun e => Heap.get?_push_of_some _ e
      have got : tupAt (h'.push { cls := .type "tuple", data := .seq (R.map (·.u)).toArray }) h'.objs.size (R.map (·.u)) := Heap.get?_push_size _ rfl
      have more : (h'.push { cls := .type "tuple", data := .seq (R.map (·.u)).toArray }).objs.size = h'.objs.size + 1 := Heap.size_push ..
      rw [sz] at got more
      show Q (.ref h'.objs.size) _
      rw [sz]
      exact q _ v f' us hv (up z1) (up o1) lO (fun j c hc => ⟨(t1 j c hc).1.at fun o e => up e, (t1 j c hc).2.at fun o e => up e⟩) got more fun a o n1 n2 n3 e => up (kk a o n1 n2 n3 e)
  | true =>
    simp only [if_true]
    refine wpAny_bind (wpAny_rule (wpAny_bind (wpAny_field hg rfl (x := .ref TO) rfl (wpAny_bind (wpAny_setField_rec hg (by simp) fun h1 z1 e1 => ?_)))))
    replace z1 : zo h1 z TI TO .ellipsis f' := z1
    have t1 : ItsAt R i 0 h1 := tg.off (fun c hc => ⟨(D.iz c hc).1, (D.iz c hc).2.2.2.1⟩) e1
    have o1 : tupAt h1 TO us := e1.extBut _ _ D.TOz oO
    have k1 : KeptN z TO R s.heap h1 := fun a o n1 n2 n3 e => e1.extBut _ _ n1 (gk a o n1 n2 n3 e)
    have sz1 : h1.objs.size = s.heap.objs.size := e1.1.trans gs.1
    refine wpAny_bind (wpAny_mono (wpAny_forIn_list _ (fun rest b s' => ∃ k h' us', k ≤ R.length ∧ rest = ((R.drop k).map (fun c => Value.ref c.it)).zipIdx k ∧ b = (none, ()) ∧ s' = { s with heap := h' } ∧ zo h' z TI TO .ellipsis f' ∧ tupAt h' TO us' ∧ us'.length = R.length ∧ us'.take k = (R.take k).map (·.u) ∧ ItsAt R i k h' ∧ h'.objs.size = s.heap.objs.size ∧ KeptN z TO R s.heap h')
      (fun b s' => ∃ h', b = (none, ()) ∧ s' = { s with heap := h' } ∧ zo h' z TI TO .ellipsis f' ∧ tupAt h' TO (R.map (·.u)) ∧ ItsAt R i R.length h' ∧ h'.objs.size = s.heap.objs.size ∧ KeptN z TO R s.heap h') ?_ ?_ _ _ ?_) ?_ fun _ _ h => h)
    · rintro x rest b s' ⟨k, h', us', kl, er, rfl, rfl, z1, o1, l1, tk, t1, sz, kk⟩
      obtain ⟨c, hc, rfl, er2, kl2⟩ := drop_consI er
      have mc := List.mem_of_getElem? hc
      have dc := D.iz c mc
      obtain ⟨a1, a2⟩ := t1 k c hc
      rw [if_neg (Nat.lt_irrefl k)] at a1
      refine wpAny_bind (wpAny_onRaise (wpAny_bind (m := Builtin.SmallTypes.nextOf (.ref c.it)) (wpAny_nextOf_list_item a1 a2 (gu c mc) fun h2 n2 e2 => wpAny_pure ?_)))
      have o2 : tupAt h2 TO us' := e2.extBut _ _ dc.2.2.1.symm o1
      refine wpAny_bind (wpAny_seqItems (s := { s with heap := h2 }) o2 rfl (wpAny_bind (upd_tup (s := { s with heap := h2 }) o2 (by omega) fun h3 o3 e3 => wpAny_bind (wpAny_letGo (wpAny_pure ?_)))))
      have z2 : zo h2 z TI TO .ellipsis f' := e2.extBut _ _ dc.1.symm z1
      refine ⟨k + 1, h3, us'.set k c.u, kl2, er2, rfl, rfl, e3.extBut _ _ D.TOz.symm z2, o3, by rw [List.length_set]; exact l1, ?_, (t1.turn D hc n2 e2).off (fun d hd => ⟨(D.iz d hd).2.2.1, (D.iz d hd).2.2.2.2⟩) e3, e3.1.trans (e2.1.trans sz), fun a o n1 n2 n3 e => e3.extBut _ _ n2 (e2.extBut _ _ (n3 c mc) (kk a o n1 n2 n3 e))⟩
      rw [List.take_add_one, List.take_add_one, hc, List.take_set_of_le (Nat.le_refl k), tk, List.getElem?_set_self (by omega)]
      simp
    · rintro b s' ⟨k, h', us', kl, er, rfl, rfl, z1, o1, l1, tk, t1, sz, kk⟩
      have := drop_nilI er
      have ek : k = R.length := by omega
      subst ek
      rw [List.take_length, List.take_of_length_le (by omega)] at tk
      subst tk
      exact ⟨h', rfl, rfl, z1, o1, t1, sz, kk⟩
    · exact ⟨0, h1, us, Nat.zero_le _, by rw [List.drop_zero], rfl, rfl, z1, o1, lO, by simp, t1, sz1, k1⟩
    · rintro b s' ⟨h5, rfl, rfl, z5, o5, t5, sz, kk⟩
      refine wpAny_bind (wpAny_seqItems (s := { s with heap := h5 }) o5 rfl (wpAny_bind (m := newTuple (R.map (·.u))) (wpAny_newTuple ?_ (by rw [List.length_map]; exact Nat.le_trans lR (by decide)))))
      have lz : z ≠ h5.objs.size := Nat.ne_of_lt (Heap.lt_size z5)
      unfold Builtin.SmallTypes.ownedTupleHandOut
      have z6 : zo (h5.push { cls := .type "tuple", data := .seq (R.map (·.u)).toArray }) z TI TO .ellipsis f' := Heap.get?_push_of_some _ z5
      refine wpAny_bind (wpAny_bind (wpAny_setField_rec z6 (by simp) fun h7 z7 e7 => ?_))
      replace z7 : zo h7 z TI TO (rawInt h5.objs.size) f' := z7
      refine wpAny_setField_rec z7 (by simp) fun h8 z8 e8 => wpAny_pure ⟨_, rfl, ?_⟩
      replace z8 : zo h8 z TI TO (rawInt h5.objs.size) false := z8
      have up : ∀ {c : Addr} {o : Obj}, c ≠ z → (h5.push { cls := .type "tuple", data := .seq (R.map (·.u)).toArray }).get? c = some o → h8.get? c = some o := fun n e => e8.extBut _ _ n (e7.extBut _ _ n e)
      have old : ∀ {c : Addr} {o : Obj}, c ≠ z → h5.get? c = some o → h8.get? c = some o := fun n e => up n (Heap.get?_push_of_some _ e)
      have got : tupAt h8 h5.objs.size (R.map (·.u)) := up lz.symm (Heap.get?_push_size _ rfl)
      have more : h8.objs.size = h5.objs.size + 1 := e8.1.trans (e7.1.trans (Heap.size_push ..))
      rw [sz] at z8 got more
      show Q (.ref h5.objs.size) _
      rw [sz]
      exact q h8 _ false _ (.inr ⟨_, rfl⟩) z8 (old D.TOz o5) (by rw [List.length_map]) (fun j c hc => ⟨(t5 j c hc).1.at fun o e => old (D.iz c (List.mem_of_getElem? hc)).1 e, (t5 j c hc).2.at fun o e => old (D.iz c (List.mem_of_getElem? hc)).2.2.2.1 e⟩) got more fun a o n1 n2 n3 e => old n1 (kk a o n1 n2 n3 e)
/-- the first one has no item more -/
theorem zip_endN {z TI TO : Addr} {c0 : Cell} {R : List Cell} {i : Nat} {v : Value} {f : Bool} {us : List Value} {Q : Fin → Shared → Prop} (calm : A.handled = none) (D : Apart z TI TO (c0 :: R)) (hv : v = .none ∨ ∃ T : Addr, v = rawInt T)
    (hz : zo s.heap z TI TO v f) (pI : tupAt s.heap TI ((c0 :: R).map fun c => .ref c.it)) (t : ItsAt (c0 :: R) i 0 s.heap) (no : c0.xs[i]? = none)
    (q : ∀ h' e, KeptN z TO (c0 :: R) s.heap h' → (∃ o, h'.get? e = some o ∧ o.cls = .type "StopIteration") → E (.ref e) { s with heap := h' }) :
    wpAny (model prog w) A (Builtin.«zip.__next__» ⟨[.ref z], []⟩) Q E s := by
  refine wpAny_bind (m := field (.ref z) 2) (wpAny_field hz rfl (x := .bool false) rfl ?_)
  refine wpAny_bind (m := field (.ref z) 3) (wpAny_field hz rfl (x := .ref TI) rfl (wpAny_bind (wpAny_seqItems pI rfl ?_)))
  have en : (((c0 :: R).map fun c => Value.ref c.it).toArray).isEmpty = false := rfl
  simp only [en]
  refine wpAny_bind (m := Builtin.SmallTypes.ownedTupleIsFree (.ref z)) (zip_free hv hz fun free g f' hg gs => ?_)
  have d0 := D.iz c0 List.mem_cons_self
  have gk : KeptN z TO (c0 :: R) s.heap g := fun a o n1 _ _ e => gs.extBut _ _ n1 e
  have tg : ItsAt (c0 :: R) i 0 g := t.off (fun c hc => ⟨(D.iz c hc).1, (D.iz c hc).2.2.2.1⟩) gs
  obtain ⟨a1, a2⟩ := tg 0 c0 rfl
  rw [if_neg (Nat.lt_irrefl 0)] at a1
  cases free with
  | false =>
    simp only [Bool.false_eq_true, if_false, ← Array.forIn_toList, List.map_cons, List.forIn_cons]
    exact wpAny_bind (wpAny_bind (wpAny_bind (wpAny_holding (wpAny_bind (m := Builtin.SmallTypes.nextOf (.ref c0.it)) (wpAny_nextOf_list_end calm a1 a2 no fun h2 e e2 he => q h2 e (fun a o n1 n2 n3 y => e2 _ _ (n3 c0 List.mem_cons_self) (gk a o n1 n2 n3 y)) he)))))
  | true =>
    simp only [if_true, List.map_cons, List.zipIdx_cons, List.forIn_cons]
    refine wpAny_bind (wpAny_rule (wpAny_bind ?_))
    obtain ⟨TO', hTO⟩ : ∃ x, x = TO := ⟨TO, rfl⟩
    refine wpAny_field hg rfl (x := .ref TO) rfl (wpAny_bind (wpAny_setField_rec hg (by simp) fun h1 z1 e1 => ?_))
    replace z1 : zo h1 z TI TO .ellipsis f' := z1
    refine wpAny_bind (wpAny_bind (wpAny_bind (wpAny_onRaise (wpAny_bind (m := Builtin.SmallTypes.nextOf (.ref c0.it)) (wpAny_nextOf_list_end calm (a1.extBut e1.extBut d0.1) (a2.extBut e1.extBut d0.2.2.2.1) no fun h2 e e2 he => ?_)))))
    obtain ⟨o, ho, hc⟩ := he
    have z2 : zo h2 z TI TO .ellipsis f' := e2 _ _ d0.1.symm z1
    have ez : e ≠ z := fun y => by
      rw [y, z2] at ho
      rw [← Option.some.inj ho] at hc
      simp at hc
    exact wpAny_setField_rec z2 (by simp) fun h3 _ e3 => q h3 e (fun a o n1 n2 n3 y => e3.extBut _ _ n1 (e2 _ _ (n3 c0 List.mem_cons_self) (e1.extBut _ _ n1 (gk a o n1 n2 n3 y)))) ⟨o, e3.extBut _ _ ez ho, hc⟩
/-- the lists' iterators, made one behind another -/
abbrev litO (l : Addr) : Obj := { cls := .type "list_iterator", data := .fields #[.ref l, .int 0 0] }
theorem iter_lists {ls : List Addr} {Q : List Value → Shared → Prop} (hl : ∀ l ∈ ls, ∃ xs, s.heap.IsList l xs) (lz : ls.length ≤ 1000)
    (q : ∀ h', h'.objs.size = s.heap.objs.size + ls.length → (∀ c o, s.heap.get? c = some o → h'.get? c = some o) → (∀ j l, ls[j]? = some l → h'.get? (s.heap.objs.size + j) = some (litO l)) → Q ((List.range ls.length).map fun j => .ref (s.heap.objs.size + j)) { s with heap := h' }) :
    wpAny (model prog w) A (Builtin.SmallTypes.iterAll (ls.map Value.ref)) Q E s := by
  unfold Builtin.SmallTypes.iterAll
  refine wpAny_bind (wpAny_mono (wpAny_forIn_list _ (fun rest b s' => ∃ k h', k ≤ ls.length ∧ rest = (ls.drop k).map Value.ref ∧ b = ((List.range k).map fun j => Value.ref (s.heap.objs.size + j)).toArray ∧ s' = { s with heap := h' } ∧ h'.objs.size = s.heap.objs.size + k ∧ (∀ c o, s.heap.get? c = some o → h'.get? c = some o) ∧ ∀ j l, j < k → ls[j]? = some l → h'.get? (s.heap.objs.size + j) = some (litO l))
    (fun b s' => ∃ h', b = ((List.range ls.length).map fun j => Value.ref (s.heap.objs.size + j)).toArray ∧ s' = { s with heap := h' } ∧ h'.objs.size = s.heap.objs.size + ls.length ∧ (∀ c o, s.heap.get? c = some o → h'.get? c = some o) ∧ ∀ j l, ls[j]? = some l → h'.get? (s.heap.objs.size + j) = some (litO l)) ?_ ?_ _ _ ?_) ?_ fun _ _ h => h)
  · rintro x rest b s' ⟨k, h', kl, er, rfl, rfl, sz, kk, its⟩
    have hk : k < ls.length := by
      rcases Nat.lt_or_ge k ls.length with h1 | h1
      · exact h1
      · rw [List.drop_of_length_le h1] at er
        cases er
    rw [List.drop_eq_getElem_cons hk, List.map_cons] at er
    injection er with ex er
    subst ex
    obtain ⟨xs, hxs⟩ := hl _ (List.getElem_mem hk)
    refine wpAny_bind (wpAny_holding (wpAny_pyIter_list (s := { s with heap := h' }) (hxs.at fun o e => kk _ o e) (wpAny_pure ?_)))
    refine ⟨k + 1, h'.push (litO ls[k]), hk, er, ?_, rfl, by rw [Heap.size_push, sz]; omega, fun c o e => Heap.get?_push_of_some _ (kk c o e), fun j l hj hl => ?_⟩
    · rw [List.range_succ, List.map_append]
      simp [sz]
    · by_cases e : j < k
      · exact Heap.get?_push_of_some _ (its j l e hl)
      · have : j = k := by omega
        subst this
        rw [List.getElem?_eq_getElem hk] at hl
        cases hl
        rw [← sz]
        exact Heap.get?_push_size _ rfl
  · rintro b s' ⟨k, h', kl, er, rfl, rfl, sz, kk, its⟩
    have ek : k = ls.length := by
      have := congrArg List.length er
      simp at this
      omega
    subst ek
    exact ⟨h', rfl, rfl, sz, kk, fun j l hl => its j l (List.getElem?_eq_some_iff.mp hl).1 hl⟩
  · exact ⟨0, s.heap, Nat.zero_le _, rfl, rfl, rfl, rfl, fun c o e => e, fun j l hj _ => absurd hj (Nat.not_lt_zero j)⟩
  · rintro b s' ⟨h', rfl, rfl, sz, kk, its⟩
    exact wpAny_pure (q h' sz kk its)
end
end PDY
namespace PDY
open PySem PySem.Spec PyProof.Rows L2 RZ PDZ
theorem tz (ls : List Value) : checkTypeCall "zip" ⟨ls, []⟩ = pure () := by kernel_rfl
theorem oz (obj : Value) (ls : List Value) : argsOk "object.__init__" ⟨obj :: ls, []⟩ := by unfold argsOk; kernel_rfl
theorem nz : ∀ ls : List Value, 1 ≤ ls.length → ls.length ≤ 12 → checkBuiltinCall "zip.__new__" ⟨.type "zip" :: ls, []⟩ = pure ()
  | [a0], _, _ => by kernel_rfl
  | [a0, a1], _, _ => by kernel_rfl
  | [a0, a1, a2], _, _ => by kernel_rfl
  | [a0, a1, a2, a3], _, _ => by kernel_rfl
  | [a0, a1, a2, a3, a4], _, _ => by kernel_rfl
  | [a0, a1, a2, a3, a4, a5], _, _ => by kernel_rfl
  | [a0, a1, a2, a3, a4, a5, a6], _, _ => by kernel_rfl
  | [a0, a1, a2, a3, a4, a5, a6, a7], _, _ => by kernel_rfl
  | [a0, a1, a2, a3, a4, a5, a6, a7, a8], _, _ => by kernel_rfl
  | [a0, a1, a2, a3, a4, a5, a6, a7, a8, a9], _, _ => by kernel_rfl
  | [a0, a1, a2, a3, a4, a5, a6, a7, a8, a9, a10], _, _ => by kernel_rfl
  | [a0, a1, a2, a3, a4, a5, a6, a7, a8, a9, a10, a11], _, _ => by kernel_rfl
  | [], h, _ => absurd h (by decide)
  | _ :: _ :: _ :: _ :: _ :: _ :: _ :: _ :: _ :: _ :: _ :: _ :: _ :: l, _, h => by simp at h
abbrev itsOf (b n : Nat) : List Value := (List.range n).map fun j => .ref (b + j)
abbrev zTup (h : Heap) (us : List Value) : Heap := h.push { cls := .type "tuple", data := .seq us.toArray }
abbrev zAll (h : Heap) (us : List Value) : Heap := (zTup (zTup h us) (us.map fun _ => .none)).push { cls := .type "zip", data := .fields #[.none, .bool false, .bool false, .ref h.objs.size, .ref (zTup h us).objs.size] }
theorem meets_zip_newN {ls : List Addr} (lz : ls.length ≤ 1000) :
    Meets (Builtin.«zip.__new__» ⟨.type "zip" :: ls.map Value.ref, []⟩) (fun _ R s => (∀ l ∈ ls, ∃ xs, s.heap.IsList l xs) ∧
      ∀ h', h'.objs.size = s.heap.objs.size + ls.length → (∀ c o, s.heap.get? c = some o → h'.get? c = some o) → (∀ j l, ls[j]? = some l → h'.get? (s.heap.objs.size + j) = some (litO l)) →
        R (.ok (.ret (.ref (zTup (zTup h' (itsOf s.heap.objs.size ls.length)) ((itsOf s.heap.objs.size ls.length).map fun _ => .none)).objs.size))) { s with heap := zAll h' (itsOf s.heap.objs.size ls.length) }) :=
  .of_wp fun prog w A R s h => by
    obtain ⟨hp, g, d, tk, os⟩ := s
    obtain ⟨hl, h⟩ := h
    have hsub := sub_zip
    have q1 : ∀ {A' : Around} {E : Value → Shared → Prop} {Q : List Value → Shared → Prop}, (∀ h', h'.objs.size = hp.objs.size + ls.length → (∀ c o, hp.get? c = some o → h'.get? c = some o) → (∀ j l, ls[j]? = some l → h'.get? (hp.objs.size + j) = some (litO l)) → Q (itsOf hp.objs.size ls.length) ⟨h', g, d, tk, os⟩) → wpAny (model prog w) A' (Builtin.SmallTypes.iterAll (ls.map Value.ref)) Q E ⟨hp, g, d, tk, os⟩ :=
      fun q => iter_lists (s := ⟨hp, g, d, tk, os⟩) hl lz fun h' a b c => q h' a b c
    wp_walk using q1
    intro h' a b c
    refine wpAny_bind (wpAny_newTuple ?_ (by simp; exact Nat.le_trans lz (by decide)))
    refine wpAny_bind (wpAny_newTuple ?_ (by simp; exact Nat.le_trans lz (by decide)))
    wp_walk
    exact ⟨_, rfl, h h' a b c⟩
section
variable {w : World} {prog : Program} {s : Shared} {A : Around} {E : Value → Shared → Prop}
/-- zip of n lists: its n + 3 new objects -/
theorem call_zipN {ls : List Addr} {Q : Value → Shared → Prop} (l1 : 1 ≤ ls.length) (l2 : ls.length ≤ 12) (hl : ∀ l ∈ ls, ∃ xs, s.heap.IsList l xs)
    (h : ∀ h', zo h' (s.heap.objs.size + ls.length + 2) (s.heap.objs.size + ls.length) (s.heap.objs.size + ls.length + 1) .none false → tupAt h' (s.heap.objs.size + ls.length) (itsOf s.heap.objs.size ls.length) →
      tupAt h' (s.heap.objs.size + ls.length + 1) ((itsOf s.heap.objs.size ls.length).map fun _ => .none) → (∀ j l, ls[j]? = some l → h'.get? (s.heap.objs.size + j) = some (litO l)) → (∀ c o, s.heap.get? c = some o → h'.get? c = some o) →
      Q (.ref (s.heap.objs.size + ls.length + 2)) { s with heap := h' }) :
    wpAny (model prog w) A (call (.type "zip") (ls.map Value.ref)) Q E s := by
  refine callType_new F.called_zip (by decide) (tz _) (nz _ (by simpa using l1) (by simpa using l2)) (fun obj => oz obj _) F.entry_zip_new (meets_zip_newN (ls := ls) (by omega)) ⟨hl, fun h' sz kk its => ?_⟩
  have z1 : (zTup h' (itsOf s.heap.objs.size ls.length)).objs.size = s.heap.objs.size + ls.length + 1 := by rw [Heap.size_push, sz]
  have z2 : (zTup (zTup h' (itsOf s.heap.objs.size ls.length)) ((itsOf s.heap.objs.size ls.length).map fun _ => .none)).objs.size = s.heap.objs.size + ls.length + 2 := by rw [Heap.size_push, z1]
  have gZ : (zAll h' (itsOf s.heap.objs.size ls.length)).get? (zTup (zTup h' (itsOf s.heap.objs.size ls.length)) ((itsOf s.heap.objs.size ls.length).map fun _ => .none)).objs.size = some _ := Heap.get?_push_size _ rfl
  have gO : (zAll h' (itsOf s.heap.objs.size ls.length)).get? (zTup h' (itsOf s.heap.objs.size ls.length)).objs.size = some _ := Heap.get?_push_of_some _ (Heap.get?_push_size _ rfl)
  have gT : (zAll h' (itsOf s.heap.objs.size ls.length)).get? h'.objs.size = some _ := Heap.get?_push_of_some _ (Heap.get?_push_of_some _ (Heap.get?_push_size _ rfl))
  have up : ∀ {c : Addr} {o : Obj}, h'.get? c = some o → (zAll h' (itsOf s.heap.objs.size ls.length)).get? c = some o := fun e => Heap.get?_push_of_some _ (Heap.get?_push_of_some _ (Heap.get?_push_of_some _ e))
  rw [z2, z1, sz] at gZ
  rw [z1] at gO
  rw [sz] at gT
  show _ ∧ _
  rw [z2]
  exact ⟨⟨_, gZ, rfl⟩, h _ gZ gT gO (fun j l e => up (its j l e)) fun c o e => up (kk c o e)⟩
end
end PDY
namespace PDY
open PySem PySem.Spec PyProof.Rows L2 RZ PDZ
structure ApartP (z TI TO : Addr) (P : List (Addr × Addr)) : Prop where
  TIz : TI ≠ z
  TOz : TO ≠ z
  TITO : TI ≠ TO
  iz : ∀ p ∈ P, p.1 ≠ z ∧ p.1 ≠ TI ∧ p.1 ≠ TO ∧ p.2 ≠ z ∧ p.2 ≠ TO
  nd : ∀ (j k : Nat) (p q : Addr × Addr), P[j]? = some p → P[k]? = some q → j ≠ k → p.1 ≠ q.1
  li : ∀ p ∈ P, ∀ q ∈ P, p.2 ≠ q.1
abbrev ofCell (c : Cell) : Addr × Addr := (c.it, c.l)
theorem ApartP.to {z TI TO : Addr} {P : List (Addr × Addr)} {R : List Cell} (D : ApartP z TI TO P) (h : R.map ofCell = P) : Apart z TI TO R where
  TIz := D.TIz
  TOz := D.TOz
  TITO := D.TITO
  iz := fun c hc => D.iz (ofCell c) (by rw [← h]; exact List.mem_map_of_mem hc)
  nd := fun j k c d hc hd n => D.nd j k (ofCell c) (ofCell d) (by rw [← h, List.getElem?_map, hc]; rfl) (by rw [← h, List.getElem?_map, hd]; rfl) n
  li := fun c hc d hd => D.li (ofCell c) (by rw [← h]; exact List.mem_map_of_mem hc) (ofCell d) (by rw [← h]; exact List.mem_map_of_mem hd)
section
variable {X : Cx} {pins : List (Addr × Obj)} {σ : L2.St} {H : Hp} {s : Shared}
theorem cellsOf (I : Inv X pins σ H s) {i : Nat} {f : Addr → List V} : ∀ P : List (Addr × Addr), (∀ p ∈ P, SqL X.K H p.2 (f p.2) ∧ i < (f p.2).length) →
    ∃ (R : List Cell) (vs : List V), R.map ofCell = P ∧ Vals vs (R.map (·.u)) ∧ (∀ c ∈ R, s.heap.IsList c.l c.xs ∧ c.xs[i]? = some c.u) ∧ vs.length = P.length ∧ ∀ (j : Nat) (p : Addr × Addr), P[j]? = some p → (f p.2)[i]? = vs[j]?
  | [], _ => ⟨[], [], rfl, .nil, fun c hc => (by cases hc), rfl, fun j p h => by simp at h⟩
  | p :: P, h => by
    obtain ⟨R, vs, e, r, hR, lv, hv⟩ := cellsOf I P fun q hq => h q (List.mem_cons_of_mem _ hq)
    obtain ⟨h1, h2⟩ := h p List.mem_cons_self
    obtain ⟨ux, relx, isx, _⟩ := I.list h1
    obtain ⟨u, hu, ru⟩ := relx.get (List.getElem?_eq_getElem h2)
    refine ⟨⟨p.1, p.2, ux.toArray, u⟩ :: R, (f p.2)[i] :: vs, by rw [List.map_cons, e], .cons ru r, fun c hc => ?_, by simp [lv], fun j q hq => ?_⟩
    · rcases List.mem_cons.mp hc with rfl | hc
      · exact ⟨isx.isList, by simpa using hu⟩
      · exact hR c hc
    · cases j with
      | zero =>
        simp at hq
        subst hq
        simpa using List.getElem?_eq_getElem h2
      | succ j => simpa using hv j q (by simpa using hq)
theorem cellsEnd (I : Inv X pins σ H s) {f : Addr → List V} : ∀ P : List (Addr × Addr), (∀ p ∈ P, SqL X.K H p.2 (f p.2)) →
    ∃ R : List Cell, R.map ofCell = P ∧ ∀ c ∈ R, s.heap.IsList c.l c.xs ∧ c.xs.size = (f c.l).length
  | [], _ => ⟨[], rfl, fun c hc => (by cases hc)⟩
  | p :: P, h => by
    obtain ⟨R, e, hR⟩ := cellsEnd I P fun q hq => h q (List.mem_cons_of_mem _ hq)
    obtain ⟨ux, relx, isx, _⟩ := I.list (h p List.mem_cons_self)
    refine ⟨⟨p.1, p.2, ux.toArray, .none⟩ :: R, by rw [List.map_cons, e], fun c hc => ?_⟩
    rcases List.mem_cons.mp hc with rfl | hc
    · exact ⟨isx.isList, by have := relx.length; simp; omega⟩
    · exact hR c hc
end
def ItzN (K : PySem.W.Frag) (ls : List Addr) : It where
  go := fun i H => ∃ f : Addr → List V, (∀ l ∈ ls, SqL K H l (f l) ∧ i < (f l).length) ∧ ls ≠ []
  yld := fun i H v H' => ∃ (t : Addr) (vs : List V), v = .ref t ∧ H t = none ∧ H' = upd H t (.tup vs) ∧ vs.length = ls.length ∧ ∀ (j : Nat) (l : Addr), ls[j]? = some l → ∀ xs, SqL K H l xs → xs[i]? = vs[j]?
  stop := fun i H => ∃ f : Addr → List V, (∀ l ∈ ls, SqL K H l (f l)) ∧ ∃ l r, ls = l :: r ∧ (f l).length = i
structure ZnSt (z TI TO : Addr) (P : List (Addr × Addr)) (i : Nat) (h : Heap) : Prop where
  ob : ∃ v f, (v = .none ∨ ∃ T : Addr, v = rawInt T) ∧ zo h z TI TO v f
  ti : tupAt h TI (P.map fun p => .ref p.1)
  to : ∃ us, us.length = P.length ∧ tupAt h TO us
  at_ : ∀ p ∈ P, h.IsListIter p.1 p.2 i
theorem ZnSt.has {z TI TO c : Addr} {P : List (Addr × Addr)} {i : Nat} {h : Heap} (st : ZnSt z TI TO P i h) (hc : c ∈ z :: TI :: TO :: P.map (·.1)) : ∃ o, h.get? c = some o ∧ ∀ v, o.data ≠ .cell v := by
  obtain ⟨v, f, _, ho⟩ := st.ob
  obtain ⟨us, _, hO⟩ := st.to
  simp only [List.mem_cons, List.mem_map] at hc
  rcases hc with rfl | rfl | rfl | ⟨p, hp, rfl⟩
  · exact ⟨_, ho, fun u y => by cases y⟩
  · exact ⟨_, st.ti, fun u y => by cases y⟩
  · exact ⟨_, hO, fun u y => by cases y⟩
  · obtain ⟨o, e, _, q⟩ := st.at_ p hp
    exact ⟨o, e, fun u y => by rw [q] at y; cases y⟩
theorem turn_zipNL {Pg : Program} {w : World} {K : PySem.W.Frag} {x : Str} {xp : Pos} {z TI TO : Addr} {P : List (Addr × Addr)} (D : ApartP z TI TO P) (n1 : P ≠ []) (n2 : P.length ≤ 12) :
    Turn Pg w K (.Name x xp) (ItzN K (P.map (·.2))) (z :: TI :: TO :: P.map (·.1)) z (ZnSt z TI TO P) where
  mem := List.mem_cons_self
  obj := fun i h st c hc => st.has hc
  keep := fun i h h' st k => by
    obtain ⟨v, f, hv, ho⟩ := st.ob
    obtain ⟨us, lu, hO⟩ := st.to
    exact ⟨⟨v, f, hv, k z (by simp) _ ho⟩, k TI (by simp) _ st.ti, ⟨us, lu, k TO (by simp) _ hO⟩, fun p hp => (st.at_ p hp).at fun o y => k p.1 (by simp; exact .inr (.inr (.inr ⟨_, hp⟩))) o y⟩
  item := by
    rintro X rfl rfl rfl calm i pins s σ H E I young st ⟨f, hf, _⟩
    obtain ⟨v, g, hv, ho⟩ := st.ob
    obtain ⟨us, lu, hO⟩ := st.to
    obtain ⟨R, vs, eR, rv, hR, lv, hvs⟩ := cellsOf I (i := i) (f := f) P fun p hp => hf _ (List.mem_map_of_mem hp)
    have D' := D.to eR
    have lR : R.length = P.length := by rw [← eR, List.length_map]
    have mR : ∀ c ∈ R, ofCell c ∈ P := fun c hc => by rw [← eR]; exact List.mem_map_of_mem hc
    have inside : ∀ c, c ∈ z :: TI :: TO :: P.map (·.1) → c ≠ s.heap.objs.size := fun c hc => by
      obtain ⟨o, e, _⟩ := st.has hc
      exact Nat.ne_of_lt (Heap.lt_size e)
    have eT : (P.map fun p => Value.ref p.1) = R.map fun c => .ref c.it := by rw [← eR, List.map_map]; rfl
    have tI := st.ti
    rw [eT] at tI
    unfold pyNext
    have ty : s.TypeIs (.ref z) "zip" := ⟨_, ho, rfl⟩
    refine wpAny_bind (wpAny_attempt (wpAny_callSpecial?_slot (name := "__next__") ty F.slot_zip_next (wpAny_call_entry F.slot_zip_next ty F.entry_zip_next
      (zip_itemN D' hv (fun e => n1 (by rw [← eR, e]; rfl)) ho tI hO (by omega) (by omega) (fun j c hc => ⟨by rw [if_neg (Nat.not_lt_zero j)]; exact st.at_ _ (mR c (List.mem_of_getElem? hc)), (hR c (List.mem_of_getElem? hc)).1⟩) (fun c hc => (hR c hc).2)
        fun h' v' f' us' hv' ho' hO' lu' it' pr _ kk => wpAny_pure ⟨_, rfl, wpAny_pure ?_⟩) (F.args_zip_next_1 _))))
    have J : Inv X pins σ (upd H s.heap.objs.size (.tup vs)) { s with heap := h' } :=
      I.turnedNew (t' := s.toks) (ch := z :: TI :: TO :: P.map (·.1)) (fun c o n e => kk c o (fun y => n (by simp [y])) (fun y => n (by simp [y])) (fun d hd y => n (by simp; exact .inr (.inr (.inr ⟨d.l, by rw [y]; exact mR d hd⟩)))) e) young (Nat.le_refl _)
        ⟨by rw [lv]; exact Nat.le_trans n2 (by decide), R.map (·.u), rv, ⟨_, pr, rfl, _, rfl⟩⟩
    refine ⟨.ref s.heap.objs.size, _, J, rfl, ⟨_, vs, rfl, I.hok.fresh (Nat.le_refl _), rfl, by simpa using lv, fun j l hl xs hxs => ?_⟩, ⟨⟨v', f', hv', ho'⟩, kk TI _ D.TIz D.TITO (fun c hc => (D'.iz c hc).2.1.symm) st.ti, ⟨us', by omega, hO'⟩, fun p hp => ?_⟩, fun c hc => (upd_ne (inside c hc)).trans (young c hc).1⟩
    · rw [List.getElem?_map] at hl
      cases hp : P[j]? with
      | none =>
        rw [hp] at hl
        cases hl
      | some p =>
        rw [hp] at hl
        cases hl
        rw [I.list_inj hxs (hf _ (List.mem_map_of_mem (List.mem_of_getElem? hp))).1]
        exact hvs j p hp
    · rw [← eR] at hp
      obtain ⟨c, hc, rfl⟩ := List.mem_map.mp hp
      obtain ⟨j, hj⟩ := List.getElem?_of_mem hc
      have := (it' j c hj).1
      rw [if_pos (List.getElem?_eq_some_iff.mp hj).1] at this
      exact this
  done := by
    rintro X rfl rfl rfl calm i pins s σ H E I young st ⟨f, hf, l, r, el, li⟩
    obtain ⟨v, g, hv, ho⟩ := st.ob
    obtain ⟨R, eR, hR⟩ := cellsEnd I (f := f) P fun p hp => hf _ (List.mem_map_of_mem hp)
    have D' := D.to eR
    have mR : ∀ c ∈ R, ofCell c ∈ P := fun c hc => by rw [← eR]; exact List.mem_map_of_mem hc
    have eT : (P.map fun p => Value.ref p.1) = R.map fun c => .ref c.it := by rw [← eR, List.map_map]; rfl
    have tI := st.ti
    rw [eT] at tI
    cases R with
    | nil => exact absurd (by rw [← eR]; rfl) n1
    | cons c0 R =>
      have e0 : c0.l = l := by
        rw [← eR] at el
        injection el
      have no : c0.xs[i]? = none := by
        have := (hR c0 List.mem_cons_self).2
        rw [e0, li] at this
        rw [Array.getElem?_eq_none_iff]
        omega
      have ty : s.TypeIs (.ref z) "zip" := ⟨_, ho, rfl⟩
      unfold pyNext
      refine wpAny_bind (wpAny_attempt (wpAny_callSpecial?_slot (name := "__next__") ty F.slot_zip_next (wpAny_call_entry F.slot_zip_next ty F.entry_zip_next
        (zip_endN (us := []) (I.ok.hd calm) D' hv ho tI (fun j c hc => ⟨by rw [if_neg (Nat.not_lt_zero j)]; exact st.at_ _ (mR c (List.mem_of_getElem? hc)), (hR c (List.mem_of_getElem? hc)).1⟩) no fun h' e kk he => ?_) (F.args_zip_next_1 _))))
      obtain ⟨o, g1, g2⟩ := he
      refine wpAny_bind (wpAny_isInstance (T := "StopIteration") (b := true) ⟨o, g1, g2⟩ isSubtype_stop (wpAny_pure ⟨rfl, ?_⟩))
      exact I.turnedL (t' := s.toks) (ch := z :: TI :: TO :: P.map (·.1)) (fun c o n e => kk c o (fun y => n (by simp [y])) (fun y => n (by simp [y])) (fun d hd y => n (by simp; exact .inr (.inr (.inr ⟨d.l, by rw [y]; exact mR d hd⟩)))) e) young
  self := fun Ar n sh Qv Ev st h => by
    obtain ⟨v, f, _, ho⟩ := st.ob
    have ty : sh.TypeIs (.ref z) "zip" := ⟨_, ho, rfl⟩
    exact wpAny_pyIter_slot ty F.slot_zip_iter (wpAny_call_entry F.slot_zip_iter ty F.entry_zip_iter (wpAny_pure ⟨_, rfl, "zip", _, ty, F.slot_zip_next.lookup, h⟩) (F.args_zip_iter_1 _))
end PDY
namespace PDY
open PySem PySem.Spec PyProof.Rows L2 RZ PDZ
theorem vals_refs : ∀ {ls : List Addr} {us : List Value}, Vals (ls.map V.ref) us → us = ls.map Value.ref
  | [], _, .nil => rfl
  | _ :: _, _, .cons r t => by
    have e : _ = Value.ref _ := r
    rw [vals_refs t, e, List.map_cons]
def iZipS (K : PySem.W.Frag) (te : TE) : TI := fun σ H R => te σ H fun v H1 => ∃ (a : Addr) (ls : List Addr), v = .ref a ∧ SqL K H1 a (ls.map V.ref) ∧ ls ≠ [] ∧ ls.length ≤ 12 ∧ (∀ l ∈ ls, ∃ xs, SqL K H1 l xs) ∧ R (ItzN K ls) H1
/-- for x in zip(*rows) -/
theorem pi_zipSK {X : Cx} {K : PySem.W.Frag} {e : Expr} {te : TE} {p pos sp xp : Pos} {x : Str} (hK : X.K = K) (hg : Gl X "zip") (hm : X.mg "zip" = none) (he : PE X e te)
    (hs : starEach [.Starred e sp] X.env = [(true, eval e X.env)] := by rfl) : PI X (.Name x xp) (.Call (.Name "zip" p) [.Starred e sp] [] pos) (iZipS K te) := by
  subst hK
  constructor
  intro pins s σ H R I wish
  refine Call_ (ld_blt I hg hm PyProof.Rows.boot_zip ?_)
  rw [hs]
  refine PySem.W.ks_call (P := fun _ => True) rfl (fun h _ => ⟨.machine, .inr (.inl rfl), fun A Q E s k q => wpAny_pure q⟩) (PySem.W.ks_lone (thn (he.run pins s σ H _ I wish) ?_))
  rintro u s1 ⟨v, H1, I1, rel, a, ls, rfl, sa, n1, n2, hl, q⟩
  obtain rfl : u = Value.ref a := rel
  refine StX.star_lst I1 sa fun us s2 I2 rv => ⟨trivial, ?_⟩
  rw [vals_refs rv]
  have hl2 : ∀ l ∈ ls, ∃ xs, s2.heap.IsList l xs := fun l hm => by
    obtain ⟨xs, hx⟩ := hl l hm
    obtain ⟨ux, _, isx, _⟩ := I2.list hx
    exact ⟨_, isx.isList⟩
  have lt : ∀ l ∈ ls, l < s2.heap.objs.size := fun l hm => by
    obtain ⟨xs, o, ho, _⟩ := hl2 l hm
    exact Heap.lt_size ho
  have pos : 1 ≤ ls.length := List.length_pos_iff.mpr n1
  refine call_zipN (ls := ls) pos n2 hl2 fun h' zp tI tO its kk => ?_
  have hP : (ls.mapIdx fun j l => (s2.heap.objs.size + j, l)).map (·.2) = ls := by
    apply List.ext_getElem?
    intro j
    simp
    cases ls[j]? <;> rfl
  have g : ∀ (j : Nat) (p : Addr × Addr), (ls.mapIdx fun j l => (s2.heap.objs.size + j, l))[j]? = some p → p.1 = s2.heap.objs.size + j ∧ ls[j]? = some p.2 := fun j p hp => by
    rw [List.getElem?_mapIdx] at hp
    cases hj : ls[j]? with
    | none =>
      rw [hj] at hp
      cases hp
    | some l =>
      rw [hj] at hp
      cases hp
      exact ⟨rfl, rfl⟩
  have gm : ∀ p, p ∈ (ls.mapIdx fun j l => (s2.heap.objs.size + j, l)) → ∃ j, j < ls.length ∧ p.1 = s2.heap.objs.size + j ∧ ls[j]? = some p.2 := fun p hp => by
    obtain ⟨j, hj⟩ := List.getElem?_of_mem hp
    obtain ⟨a, b⟩ := g j p hj
    exact ⟨j, (List.getElem?_eq_some_iff.mp b).1, a, b⟩
  generalize hN : s2.heap.objs.size = N at *
  generalize hPP : (ls.mapIdx fun j l => (N + j, l)) = P at *
  have lP : P.length = ls.length := by rw [← hP, List.length_map]
  have q9 : ∀ a b : Nat, a < N → N ≤ b → a ≠ b := fun a b h1 h2 => by omega
  have D : ApartP (N + ls.length + 2) (N + ls.length) (N + ls.length + 1) P :=
    { TIz := Nat.ne_of_lt (by omega), TOz := Nat.ne_of_lt (by omega), TITO := Nat.ne_of_lt (by omega)
      iz := fun p hp => by
        obtain ⟨j, jl, e1, e2⟩ := gm p hp
        have := lt _ (List.mem_of_getElem? e2)
        exact ⟨Nat.ne_of_lt (by omega), Nat.ne_of_lt (by omega), Nat.ne_of_lt (by omega), q9 _ _ (lt _ (List.mem_of_getElem? e2)) (by omega), q9 _ _ (lt _ (List.mem_of_getElem? e2)) (by omega)⟩
      nd := fun j k p q hp hq n => by
        rw [(g j p hp).1, (g k q hq).1]
        exact fun e => n (Nat.add_left_cancel e)
      li := fun p hp q hq => by
        obtain ⟨j, jl, e1, e2⟩ := gm p hp
        obtain ⟨k, kl, e3, e4⟩ := gm q hq
        have := lt _ (List.mem_of_getElem? e2)
        exact q9 _ _ (lt _ (List.mem_of_getElem? e2)) (by omega) }
  have J : Inv X pins σ H1 { s2 with heap := h' } := I2.kept (t' := s2.toks) kk
  have T := turn_zipNL (Pg := X.prog) (w := X.w) (K := X.K) (x := x) (xp := xp) D (fun e => n1 (by rw [← hP, e]; rfl)) (by omega)
  rw [hP] at T
  have eI : itsOf N ls.length = P.map fun p => .ref p.1 := by
    apply List.ext_getElem?
    intro j
    rw [← hPP]
    simp only [itsOf, List.getElem?_map, List.getElem?_mapIdx]
    rcases Nat.lt_or_ge j ls.length with h1 | h1
    · rw [List.getElem?_range h1, List.getElem?_eq_getElem h1]
      rfl
    · rw [List.getElem?_eq_none h1, List.getElem?_eq_none (by simpa using h1)]
      rfl
  have st : ZnSt (N + ls.length + 2) (N + ls.length) (N + ls.length + 1) P 0 h' :=
    ⟨⟨.none, false, .inl rfl, zp⟩, by rw [← eI]; exact tI, ⟨_, by simp [itsOf, lP], tO⟩, fun p hp => by
      obtain ⟨j, jl, e1, e2⟩ := gm p hp
      exact ⟨litO p.2, by rw [e1]; exact its j _ e2, rfl, rfl⟩⟩
  refine T.self _ 0 _ _ _ st ⟨_, _, _, _, H1, rfl, J, T, st, fun c hc => ?_, q⟩
  have le : N ≤ c := by
    simp only [List.mem_cons, List.mem_map] at hc
    rcases hc with rfl | rfl | rfl | ⟨p, hp, rfl⟩
    · omega
    · omega
    · omega
    · obtain ⟨j, jl, e1, e2⟩ := gm p hp
      omega
  rw [← hN] at le
  exact I2.fpOk le (I2.hok.fresh le)
end PDY
namespace PD
open PySem PySem.Spec PyProof.Rows L2 PDY
theorem Reps.of_get {W : Wd} {M : Addr → Prop} {H : Hp} : ∀ {vs : List V} {ds : List D}, vs.length = ds.length → (∀ (j : Nat) (v : V) (d : D), vs[j]? = some v → ds[j]? = some d → Rep W M H v d) → Reps W M H vs ds
  | [], [], _, _ => .nil
  | [], _ :: _, h, _ => by cases h
  | _ :: _, [], h, _ => by cases h
  | v :: vs, d :: ds, h, g => .cons (g 0 v d rfl rfl) (Reps.of_get (by simpa using h) fun j x y a b => g (j + 1) x y (by simpa using a) (by simpa using b))
theorem Reps.lists {W : Wd} {M : Addr → Prop} {H : Hp} : ∀ {vs : List V} {rows : List (List D)}, Reps W M H vs (rows.map .lst) → ∃ ls : List Addr, vs = ls.map V.ref ∧ ls.length = rows.length ∧
    ∀ (j : Nat) (l : Addr), ls[j]? = some l → ¬ M l ∧ ∃ xs row, rows[j]? = some row ∧ H l = some (.lst xs) ∧ Reps W M H xs row
  | [], [], _ => ⟨[], rfl, rfl, fun j l h => by simp at h⟩
  | _, r :: rows, .cons (.lst (a := a) na h1 h2) t => by
    obtain ⟨ls, e, ll, g⟩ := Reps.lists t
    subst e
    refine ⟨a :: ls, rfl, by simp [ll], fun j l hl => ?_⟩
    cases j with
    | zero =>
      simp at hl
      subst hl
      exact ⟨na, _, r, rfl, h1, h2⟩
    | succ j => simpa using g j l (by simpa using hl)
def colD (rows : List (List D)) (n : Nat) : List D := (List.range n).map fun i => .tup (rows.map fun r => r.getD i .non)
theorem colD_length (rows : List (List D)) (n : Nat) : (colD rows n).length = n := by simp [colD]
theorem colD_get {rows : List (List D)} {n i : Nat} {d : D} (h : (colD rows n)[i]? = some d) : i < n ∧ d = .tup (rows.map fun r => r.getD i .non) := by
  unfold colD at h
  rw [List.getElem?_map] at h
  rcases Nat.lt_or_ge i n with h1 | h1
  · rw [List.getElem?_range h1] at h
    exact ⟨h1, (Option.some.inj h).symm⟩
  · rw [List.getElem?_eq_none (by simpa using h1)] at h
    cases h
section
variable {W : Wd} {δ : DS}
theorem src_zipS {M : Addr → Prop} {H1 : Hp} {ls : List Addr} {rows : List (List D)} {n : Nat} (w : Wf W M H1) (hls : ls.length = rows.length) (n1 : rows ≠ [])
    (hr : ∀ (j : Nat) (l : Addr), ls[j]? = some l → ¬ M l ∧ ∃ xs row, rows[j]? = some row ∧ H1 l = some (.lst xs) ∧ Reps W M H1 xs row) (hn : ∀ r ∈ rows, r.length = n) : Src W M (ItzN W.K ls) H1 (colD rows n) := fun M' hm hn' i H2 k g => by
  have wg : Wg W M' H1 := ⟨w.g, fun b e => hm b (w.sm b e)⟩
  have wg2 : Wg W M' H2 := ⟨g, fun b e => hm b (w.sm b e)⟩
  obtain ⟨f, ef⟩ : ∃ f : Addr → List V, ∀ l xs, H1 l = some (.lst xs) → f l = xs := ⟨fun l => match H1 l with | some (.lst xs) => xs | _ => [], fun l xs e => by simp only [e]⟩
  have F : ∀ (j : Nat) (l : Addr), ls[j]? = some l → SqL W.K H2 l (f l) ∧ ∃ row, rows[j]? = some row ∧ Reps W M' H2 (f l) row := fun j l hl => by
    obtain ⟨na, xs, row, h1, h2, h3⟩ := hr j l hl
    rw [ef l xs h2]
    exact ⟨.inl (.inl (rdL_keepM w.wg k na h2)), row, h1, (h3.more hn').keepM wg (k.mono hm)⟩
  have G : ∀ l ∈ ls, SqL W.K H2 l (f l) ∧ (f l).length = n := fun l hl => by
    obtain ⟨j, hj⟩ := List.getElem?_of_mem hl
    obtain ⟨h1, row, h2, h3⟩ := F j l hj
    exact ⟨h1, by rw [h3.length]; exact hn _ (List.mem_of_getElem? h2)⟩
  have ne : ls ≠ [] := fun e => by
    rw [e] at hls
    exact n1 (List.length_eq_zero_iff.mp hls.symm)
  refine ⟨fun hi => ⟨f, fun l hl => (G l hl).1, ?_⟩, fun d hd => ?_⟩
  · rw [colD_length] at hi
    cases ls with
    | nil => exact absurd rfl ne
    | cons l r => exact ⟨l, r, rfl, (G l List.mem_cons_self).2.trans (by omega)⟩
  · obtain ⟨hi, rfl⟩ := colD_get hd
    refine ⟨⟨f, fun l hl => ⟨(G l hl).1, by rw [(G l hl).2]; exact hi⟩, ne⟩, fun z H3 yy => ?_⟩
    obtain ⟨T, vs, rfl, hT, rfl, lv, hv⟩ := yy
    have kn : Keep W H2 (upd H2 T (.tup vs)) := Keep.new hT
    refine ⟨g.new hT, kn, .tup (SqT.of upd_same) (Reps.of_get (by simp [lv, hls]) fun j v d h1 h2 => ?_)⟩
    have jl : j < ls.length := by rw [← lv]; exact (List.getElem?_eq_some_iff.mp h1).1
    have e1 := List.getElem?_eq_getElem jl
    obtain ⟨s1, row, h3, h4⟩ := F j _ e1
    have e2 := hv j _ e1 _ s1
    rw [h1] at e2
    obtain ⟨x, hx, rx⟩ := h4.got e2
    rw [List.getElem?_map, h3] at h2
    cases h2
    show Rep W M' _ v (row.getD i .non)
    rw [List.getD_eq_getElem?_getD, hx]
    exact rx.keepG wg2 kn
theorem it_zipS {P : List D → Prop} {te : TE} (h : EvD W te δ fun x => ∃ (rows : List (List D)) (n : Nat), x = .lst (rows.map .lst) ∧ rows ≠ [] ∧ rows.length ≤ 12 ∧ (∀ r ∈ rows, r.length = n) ∧ P (colD rows n)) : IterD W (iZipS W.K te) δ P := fun M σ H p R q => h M σ H p _ fun v d H1 g1 k1 r1 h1 => by
  obtain ⟨rows, n, rfl, n1, n2, hn, hP⟩ := h1
  cases r1 with
  | lst na hs hr =>
    obtain ⟨ls, rfl, ll, g⟩ := hr.lists
    exact ⟨_, ls, rfl, .inl (.inl hs), fun e => n1 (List.length_eq_zero_iff.mp (by rw [← ll, e]; rfl)), by omega, fun l hl => by
      obtain ⟨j, hj⟩ := List.getElem?_of_mem hl
      obtain ⟨_, xs, _, _, h2, _⟩ := g j l hj
      exact ⟨xs, .inl (.inl h2)⟩, q _ H1 _ g1 k1 hP (src_zipS (p.wf.next g1 k1) ll n1 g hn)⟩
end
end PD
namespace PD
open PySem PySem.Spec PyProof.Rows L2
theorem lookup_no {α : Type} {m : Str} : ∀ {fs : List (Str × α)}, m ∉ fs.map (·.1) → fs.lookup m = none
  | [], _ => rfl
  | (a, b) :: fs, h => by
    simp only [List.map_cons, List.mem_cons, not_or] at h
    have e : (m == a) = false := by simpa using h.1
    rw [List.lookup_cons, e]
    exact lookup_no h.2
theorem ev_meth {W : Wd} {δ : DS} {C : Addr} {m : Str} {F : FD} {E : XK} {t0 : TE} {ta : TA} {P : D → Prop}
    (h : EvD W t0 δ fun d0 => ∃ ns ds, d0 = .ins C ns ds ∧ m ∉ ns ∧ EvA W ta δ fun es => F (d0 :: es) P) : EvD W (tMeth C m (spD W.K F) [] E t0 ta) δ P := fun M σ H p Q q =>
  h M σ H p _ fun v d H1 g1 k1 r1 h1 => by
    obtain ⟨ns, ds, rfl, nm, ha⟩ := h1
    have r0 := r1
    cases r1 with
    | ins nM hH e r =>
      refine ⟨_, _, _, rfl, hH, lookup_no (by rw [e]; exact nm), ?_⟩
      exact ha M σ H1 (p.next g1 k1) _ fun vs es H2 g2 k2 r2 f2 => ⟨W, M, _ :: es, P, rfl, (p.next g1 k1).wf.next g2 k2, .cons (r0.keep (p.next g1 k1).wf k2) (by rw [List.append_nil]; exact r2), f2, fun v d H3 g3 k3 r3 h3 => q v d H3 g3 (k1.trans (k2.trans k3)) r3 h3⟩
end PD
namespace PD
open PySem PySem.Spec PyProof.Rows L2
def meB (K : PySem.W.Frag) (C f : Addr) (m : Str) : Bool := decide (PySem.W.findIn K (.ref C) m = some (some (.ref f))) && PySem.W.isFn K (.ref f) && PySem.W.keepIn K (.ref f)
theorem me_of {K : PySem.W.Frag} {C f : Addr} {m : Str} (h : meB K C f m = true) : Meth K C m f := by
  unfold meB at h
  simp only [Bool.and_eq_true, decide_eq_true_eq] at h
  exact ⟨h.1.1, h.1.2, h.2⟩
end PD
namespace PD
open PySem PySem.Spec PyProof.Rows L2
end PD
namespace WarM
def pw (E : Nat → Nat → Bool) (n : Nat) : Nat → Nat → Nat → Bool
  | 0 => E
  | m + 1 => fun i j => (List.range n).any fun k => pw E n m i k && E k j
def sm (E : Nat → Nat → Bool) (n : Nat) : Nat → Nat → Nat → Bool
  | 0 => E
  | m + 1 => fun i j => sm E n m i j || pw E n (m + 1) i j
end WarM
namespace WarM
abbrev BM := List (List Bool)
def DimB (M : BM) (r c : Nat) : Prop := M.length = r ∧ ∀ row ∈ M, row.length = c
theorem DimB.row {M : BM} {r c i : Nat} (d : DimB M r c) (h : i < r) : (M.getD i []).length = c := by
  have h' : i < M.length := by rw [d.1]; exact h
  rw [List.getD_eq_getElem?_getD, List.getElem?_eq_getElem h']
  exact d.2 _ (List.getElem_mem h')
end WarM
namespace PD
open PySem PySem.Spec PyProof.Rows L2 WarM
section
variable {W : Wd} {δ : DS} {P : D → Prop}
/-- [g(x) for x in xs], x by what it stands for -/
theorem ev_lcM {α : Type} {wi : TI} {gt : TG} {te : TE} {vs : List Nat} (xs : List α) (f g : α → D) (h : IterD W wi δ fun ds => ds = xs.map f ∧ xs.length ≤ 100000 ∧
    (∀ (i : Nat) (x : α), xs[i]? = some x → ∃ js, (∀ j ∈ js, j ∈ vs) ∧ GD W gt (f x) (wipeD δ vs) js fun δ2 => EvD W te δ2 fun z => z = g x) ∧ P (.lst (xs.map g))) : EvD W (tLc wi gt tYes te vs) δ P :=
  ev_lcL fun M σ H p R q => h M σ H p R fun J H1 ds g1 k1 ⟨e, hl, hs, hP⟩ => q J H1 ds g1 k1 ⟨by rw [e, List.length_map]; exact hl, xs.map g, by rw [e, List.length_map, List.length_map], fun i d y hd hy => by
    subst e
    rw [List.getElem?_map] at hd hy
    cases hx : xs[i]? with
    | none => rw [hx] at hd; cases hd
    | some x =>
      rw [hx] at hd hy
      cases hd
      cases hy
      exact hs i x hx, hP⟩
/-- the same over two lists, pair by pair -/
theorem zipD_map {α β : Type} (xs : List α) (ys : List β) (f : α → D) (g : β → D) : zipD (xs.map f) (ys.map g) = (xs.zip ys).map fun p => .tup [f p.1, g p.2] := by
  unfold zipD
  rw [List.zipWith_map, List.zip, List.map_zipWith]
end
end PD
namespace PD
open PySem PySem.Spec PyProof.Rows L2 WarM
end PD
namespace PD
open PySem PySem.Spec PyProof.Rows L2 WarM
def ixD (k : Nat) : D := .int (0 + (k : Int))
theorem range_get {n i x : Nat} (h : (List.range n)[i]? = some x) : i < n ∧ x = i := by
  have h1 := (List.getElem?_eq_some_iff.mp h).1
  rw [List.length_range] at h1
  rw [List.getElem?_range h1] at h
  exact ⟨h1, (Option.some.inj h).symm⟩
theorem rngM (n : Nat) : rngD 0 n = (List.range n).map ixD := rfl
end PD
namespace PD
open PySem PySem.Spec PyProof.Rows L2 WarM
theorem rc_any {W : Wd} {P : D → Prop} {bs : List Bool} (h : P (.bl (bs.any id))) : RCD W (rAny W.K) [.lst (bs.map D.bl)] P := fun M H vs w r Q q => by
  cases r with
  | cons r1 t =>
    cases t
    cases r1 with
    | lst _ hs hr =>
      obtain rfl := reps_bls hr
      exact ⟨_, bs, rfl, SqL.of hs, q _ _ H w.g (Keep.refl H) (.bl _) h⟩
end PD
namespace PD
open PySem PySem.Spec PyProof.Rows L2 WarM
theorem enumM (ds : List D) : enumD ds = (List.range ds.length).map fun (k : Nat) => D.tup [.int (k : Int), ds.getD k .non] := by
  apply List.ext_getElem
  · simp [enumD]
  · intro i h1 h2
    have h : i < ds.length := by simpa using h2
    simp [enumD, List.getD_eq_getElem?_getD, List.getElem?_eq_getElem h]
end PD
namespace PD
open PySem PySem.Spec PyProof.Rows L2 WarM
/-- an object made by an __init__ that lets nothing out -/
theorem ev_makeE {W : Wd} {δ : DS} {F : FI} {C : Addr} {E : XK} {ta : TA} {P : D → Prop} (h : EvA W ta δ fun ds => F C ds (fun ns es => P (.ins C ns es)) fun _ => False) : EvD W (tMake C (spInit W.K F) [] E ta) δ P := fun M σ H p Q q =>
  h M σ H p _ fun vs ds H1 g1 k1 r1 h1 => make_core (p.wf.next g1 k1) r1 h1 (fun v d H2 g2 k2 r2 h2 => q v d H2 g2 (k1.trans k2) r2 h2) fun _ _ _ _ _ _ _ z => z.elim
end PD
namespace PD
open PySem PySem.Spec PyProof.Rows L2 WarM
section
variable {W : Wd} {δ : DS}
/-- from hi down to above lo -/
def downD (hi : Int) (n : Nat) : List D := (List.range n).map fun (k : Nat) => .int (hi - (k : Int))
theorem downD_length (hi : Int) (n : Nat) : (downD hi n).length = n := by simp [downD]
theorem downD_get {hi : Int} {n i : Nat} {d : D} (h : (downD hi n)[i]? = some d) : i < n ∧ d = .int (hi - (i : Int)) := by
  unfold downD at h
  rw [List.getElem?_map] at h
  cases e : (List.range n)[i]? with
  | none => rw [e] at h; cases h
  | some x =>
    rw [e] at h
    cases h
    obtain ⟨a, rfl⟩ := range_get e
    exact ⟨a, rfl⟩
theorem src_down {M : Addr → Prop} {H1 : Hp} (hi : Int) (n : Nat) : Src W M (Itc hi (-1) n) H1 (downD hi n) := fun M' hm hn i H2 k g => by
  refine ⟨fun hl => by rw [downD_length] at hl; exact Nat.le_of_eq hl.symm, fun d hd => ?_⟩
  obtain ⟨hl, rfl⟩ := downD_get hd
  refine ⟨hl, fun x H3 y => ?_⟩
  obtain ⟨rfl, rfl⟩ := y
  have e : hi - (i : Int) = hi + (i : Int) * (-1) := by omega
  rw [e]
  exact ⟨g, Keep.refl _, .int _⟩
theorem it_down {P : List D → Prop} {ta : TA} (h : EvA W ta δ fun xs => ∃ m n : Int, xs = [.int m, .int n, .int (-1)] ∧ (-(2 ^ 62) ≤ m ∧ m < 2 ^ 62 ∧ -(2 ^ 62) ≤ n ∧ n < 2 ^ 62) ∧ P (downD m (m - n).toNat)) : IterD W (iRng3 ta) δ P := fun M σ H p R q => h M σ H p _ fun vs ds H1 g1 k1 r1 h1 => by
  obtain ⟨m, n, rfl, ⟨a1, a2, a3, a4⟩, hP⟩ := h1
  cases r1 with
  | cons r1 r2 =>
    cases r2 with
    | cons r2 r3 =>
      cases r3 with
      | cons r3 r4 =>
        cases r4
        cases r1
        cases r2
        cases r3
        exact ⟨m, n, -1, _, rfl, RgC.neg a1 a2 a3 a4, q _ H1 _ g1 k1 hP (src_down m _)⟩
end
end PD
namespace PD
open PySem PySem.Spec PyProof.Rows L2 WarM
theorem rd_repL {W : Wd} {P : D → Prop} {xs : List D} {k : Int} (h1 : -(2 ^ 63) ≤ k) (h2 : k < 2 ^ 63) (hl : xs.length * k.toNat ≤ 100000) (h : P (.lst (List.replicate k.toNat xs).flatten)) : RD W rRep (.lst xs) (.int k) P := fun M H v u w r1 r2 Q q => by
  cases r2
  cases r1 with
  | lst n ha hr =>
    refine ⟨_, k, _, rfl, rfl, ha, h1, h2, len_ok (by rw [hr.length]; exact hl), fun p hp => ?_⟩
    obtain ⟨x1, x2, x3⟩ := newL w (reps_flat hr k.toNat) hp
    exact q _ _ _ x1 x2 x3 h
end PD
namespace PD
open PySem PySem.Spec PyProof.Rows L2 WarM
end PD
namespace PD
open PySem PySem.Spec PyProof.Rows L2 WarM
end PD
namespace PD
open PySem PySem.Spec PyProof.Rows L2
abbrev GX := List (List D)
def gridX (M : GX) : D := .lst (M.map .lst)
/-- what stands in cells: nought, sums, products' sums, the sums of powers; what is put in; and what each may be asked of -/
structure Al where
  z : D
  pl : D → D → D
  inn : List D → List D → D
  st : GX → GX
  put : Nat → Nat → Nat → D → D
  okP : D → D → Prop
  okI : List D → List D → Prop
  okS : GX → Prop
  okU : Nat → Nat → Nat → D → Prop
def DimX (M : GX) (r c : Nat) : Prop := M.length = r ∧ ∀ row ∈ M, row.length = c
theorem DimX.row {M : GX} {r c i : Nat} (d : DimX M r c) (h : i < r) : (M.getD i []).length = c := by
  have h2 : i < M.length := by rw [d.1]; exact h
  rw [List.getD_eq_getElem?_getD, List.getElem?_eq_getElem h2]
  exact d.2 _ (List.getElem_mem h2)
theorem DimX.same {A : GX} {r c r' c' : Nat} (d : DimX A r c) (d' : DimX A r' c') (h : 1 ≤ r) : r' = r ∧ c' = c := by
  have h1 : r' = r := d'.1.symm.trans d.1
  refine ⟨h1, ?_⟩
  cases A with
  | nil => have := d.1; simp at this; omega
  | cons x A => rw [← d.2 x List.mem_cons_self, ← d'.2 x List.mem_cons_self]
def colsX (M : GX) (n : Nat) : GX := (List.range n).map fun j => M.map fun row => row.getD j .non
theorem colsX_len (M : GX) (n : Nat) : (colsX M n).length = n := by simp [colsX]
theorem colD_X {M : GX} {c : Nat} : colD M c = (colsX M c).map .tup := by
  unfold colD colsX
  rw [List.map_map]
  rfl
theorem dim_colsX {M : GX} {r c : Nat} (d : DimX M r c) : DimX (colsX M c) c r := ⟨colsX_len M c, fun row h => by
  obtain ⟨j, hj, rfl⟩ := List.mem_map.mp h
  rw [List.length_map, d.1]⟩
namespace Al
variable (A : Al)
def sums (X Y : GX) : GX := List.zipWith (List.zipWith A.pl) X Y
def prod (X Y : GX) (c : Nat) : GX := X.map fun row => (colsX Y c).map fun col => A.inn row col
/-- what is put in of the i-th grid -/
def cell (i a b : Nat) (u : D) : D := if u.isNon then A.z else A.put i a b u
def putRow (i a : Nat) (row : List D) : List D := (List.range row.length).map fun b => A.cell i a b (row.getD b .non)
def putG (i : Nat) (rows : GX) : GX := (List.range rows.length).map fun a => A.putRow i a (rows.getD a [])
end Al
/-- what a step makes of grids of its sizes; G: the grids by their numbers -/
inductive MkX (A : Al) (G : Nat → Option GX) : Str → List Int → GX → Prop
  | plus {a b r c : Nat} {X Y : GX} : G a = some X → G b = some Y → DimX X r c → DimX Y r c → r ≤ 12 → c ≤ 12 → (∀ p ∈ X.zip Y, ∀ q ∈ p.1.zip p.2, A.okP q.1 q.2) → MkX A G "plus" [(a : Int), (b : Int)] (A.sums X Y)
  | times {a b r m c : Nat} {X Y : GX} : G a = some X → G b = some Y → DimX X r m → DimX Y m c → 1 ≤ m → r ≤ 12 → m ≤ 12 → c ≤ 12 → (∀ row ∈ X, ∀ col ∈ colsX Y c, A.okI row col) → MkX A G "times" [(a : Int), (b : Int)] (A.prod X Y c)
  | turned {a r c : Nat} {X : GX} : G a = some X → DimX X r c → 1 ≤ r → r ≤ 12 → c ≤ 12 → MkX A G "turned" [(a : Int)] (colsX X c)
  | beside {a b r m c : Nat} {X Y : GX} : G a = some X → G b = some Y → DimX X r m → DimX Y r c → r ≤ 12 → m ≤ 12 → c ≤ 12 → MkX A G "beside" [(a : Int), (b : Int)] (List.zipWith (· ++ ·) X Y)
  | above {a b r m c : Nat} {X Y : GX} : G a = some X → G b = some Y → DimX X r c → DimX Y m c → r ≤ 12 → m ≤ 12 → c ≤ 12 → MkX A G "above" [(a : Int), (b : Int)] (X ++ Y)
  | star {a n : Nat} {X : GX} : G a = some X → DimX X n n → 1 ≤ n → n ≤ 12 → A.okS X → MkX A G "star" [(a : Int)] (A.st X)
  | piece {a i j h w r c : Nat} {X : GX} : G a = some X → DimX X r c → i + h ≤ r → j + w ≤ c → 1 ≤ h → 1 ≤ w → r ≤ 12 → c ≤ 12 → MkX A G "piece" [(a : Int), (i : Int), (j : Int), (h : Int), (w : Int)] (((X.drop i).take h).map fun row => (row.drop j).take w)
/-- the grids that a list of data holds where they are wanted -/
def AtX (G : Nat → Option GX) (gs : List D) : Prop := ∀ a M, G a = some M → gs[a]? = some (gridX M)
theorem zipD_X (xs ys : List D) : zipD xs ys = (xs.zip ys).map fun p => .tup [p.1, p.2] := by
  unfold zipD
  rw [List.zip, List.map_zipWith]
theorem cutX (xs : List D) (a b : Nat) : cutD xs (some (a : Int)) (some ((a : Int) + (b : Int))) = (xs.drop a).take b := by
  have e : ((a : Int) + (b : Int)) = ((a + b : Nat) : Int) := by omega
  rw [e, cutD_mid, Nat.add_sub_cancel_left]
theorem listX_at {r : List D} {j : Nat} (h : j < r.length) : r[j]? = some (r.getD j .non) := by
  rw [List.getElem?_eq_getElem h, List.getD_eq_getElem?_getD, List.getElem?_eq_getElem h]
  rfl
/-- rows of data, none of them empty -/
def FullX (M : GX) : Prop := M ≠ [] ∧ ∀ r ∈ M, r ≠ []
theorem fullX {M : GX} {a b : Nat} (d : DimX M a b) (h1 : 1 ≤ a) (h2 : 1 ≤ b) : FullX M := ⟨fun e => by
  have := d.1
  rw [e] at this
  simp at this
  omega, fun r hr e => by
  have := d.2 r hr
  rw [e] at this
  simp at this
  omega⟩
/-- an object's grid as it was given -/
def gridD (C : Addr) (x : D × List (List D)) : D := .ins C ["bases", "rows"] [x.1, .tup (x.2.map .tup)]
/-- a script all of whose steps make something: F what all its grids hold -/
structure ScX (A : Al) (CG : Addr) (gs : List (D × List (List D))) (sts : List (Str × List Int)) (F : List GX) (r : List Sh) : Prop where
  one : 1 ≤ gs.length
  few : gs.length + sts.length ≤ 30
  len : F.length = gs.length + sts.length
  lr : r.length = gs.length + sts.length
  giv : ∀ (i : Nat) (x : D × List (List D)), gs[i]? = some x → F[i]? = some (A.putG i x.2) ∧ x.2.length ≤ 12 ∧ (∀ y ∈ x.2, y.length ≤ 12) ∧ ∀ (a b : Nat) (row : List D) (u : D), x.2[a]? = some row → row[b]? = some u → u.isNon = false → A.okU i a b u
  mks : ∀ (i : Nat) (s : Str × List Int), sts[i]? = some s → ∃ M, F[gs.length + i]? = some M ∧ MkX A (fun a => if a < gs.length + i then F[a]? else none) s.1 s.2 M
  nl : ∀ x ∈ gs, (gridD CG x).nolst = true
  dim : ∀ (i : Nat) (M : GX) (p : Sh), F[i]? = some M → r[i]? = some p → ∃ a b : Nat, p = ((a : Int), (b : Int)) ∧ DimX M a b ∧ 1 ≤ a ∧ 1 ≤ b ∧ a ≤ 12 ∧ b ≤ 12
/-- a script's steps name what is there -/
structure SrcX (CG : Addr) (gs : List (D × List (List D))) (sts : List (Str × List Int)) (r : List Sh) : Prop where
  one : 1 ≤ gs.length
  few : gs.length + sts.length ≤ 30
  nl : ∀ x ∈ gs, (gridD CG x).nolst = true
  src : ∀ (i : Nat) (s : Str × List Int), sts[i]? = some s → kindLen.lookup s.1 = some ((s.2.length : Int) + 1) ∧ ∀ j ∈ srcs s.1 s.2, ∃ c : Nat, j = (c : Int) ∧ c < gs.length + i
theorem srcX_two {G : Nat → Option GX} {k : Str} {a b : Nat} {A B : GX} (hk : kindLen.lookup k = some 3) (g : G a = some A) (g2 : G b = some B) : ∀ j ∈ srcs k [(a : Int), (b : Int)], ∃ (c : Nat) (C : GX), j = (c : Int) ∧ G c = some C := by
  intro j hj
  unfold srcs at hj
  rw [if_pos hk] at hj
  simp at hj
  rcases hj with rfl | rfl
  · exact ⟨a, A, rfl, g⟩
  · exact ⟨b, B, rfl, g2⟩
theorem srcX_one {G : Nat → Option GX} {k : Str} {a : Nat} {l : List Int} {A : GX} (hk : kindLen.lookup k ≠ some 3) (g : G a = some A) : ∀ j ∈ srcs k ((a : Int) :: l), ∃ (c : Nat) (C : GX), j = (c : Int) ∧ G c = some C := by
  intro j hj
  unfold srcs at hj
  rw [if_neg hk] at hj
  simp at hj
  subst hj
  exact ⟨a, A, rfl, g⟩
/-- the numbers of the grids that a step reads -/
theorem mkx_src {A : Al} {G : Nat → Option GX} {k : Str} {l : List Int} {M : GX} (h : MkX A G k l M) : kindLen.lookup k = some ((l.length : Int) + 1) ∧ ∀ j ∈ srcs k l, ∃ (a : Nat) (B : GX), j = (a : Int) ∧ G a = some B := by
  cases h with
  | plus g g2 => exact ⟨rfl, srcX_two rfl g g2⟩
  | times g g2 => exact ⟨rfl, srcX_two rfl g g2⟩
  | beside g g2 => exact ⟨rfl, srcX_two rfl g g2⟩
  | above g g2 => exact ⟨rfl, srcX_two rfl g g2⟩
  | turned g => exact ⟨rfl, srcX_one (by decide +kernel) g⟩
  | star g => exact ⟨rfl, srcX_one (by decide +kernel) g⟩
  | piece g => exact ⟨rfl, srcX_one (by decide +kernel) g⟩
theorem ScX.src {A : Al} {CG : Addr} {gs : List (D × List (List D))} {sts : List (Str × List Int)} {F : List GX} {r : List Sh} (h : ScX A CG gs sts F r) : SrcX CG gs sts r := ⟨h.one, h.few, h.nl, fun i s hs => by
  obtain ⟨M, _, mk⟩ := h.mks i s hs
  obtain ⟨lk, src⟩ := mkx_src mk
  refine ⟨lk, fun j hj => ?_⟩
  obtain ⟨c, C, e, g⟩ := src j hj
  refine ⟨c, e, ?_⟩
  by_cases q : c < gs.length + i
  · exact q
  · rw [if_neg q] at g
    cases g⟩
def scF (CS CG : Addr) (gs : List (D × List (List D))) (sts : List (Str × List Int)) (r : List Sh) : D := scD CS (.tup (gs.map (gridD CG))) (.tup (sts.map fun s => stD s.1 s.2)) r
end PD
namespace PD
open PySem PySem.Spec PyProof.Rows L2
/-- x in t, t a tuple, by data -/
def rInT (K : PySem.W.Frag) : R2 := fun x y H Q => ∃ d ds, Dp K H x d ∧ Dp K H y (.tuple ds) ∧ SeqAt.shaped d = true ∧ SeqAt.shaped (.tuple ds) = true ∧ Q (.bl (ds.any fun z => PyData.eqv z d)) H
theorem op_inT {X : Cx} (hu : X.A.units + 65 < cLine) : OpR X (compareOp .In) (rInT X.K) := fun pins s σ H x y v u Q I rx ry h => by
  obtain ⟨d, ds, h1, h2, s1, s2, q⟩ := h
  obtain ⟨_, r1⟩ := Dp.reads I d x v h1 rx
  obtain ⟨_, r2⟩ := Dp.reads I (.tuple ds) y u h2 ry
  refine SeqAt.in_tuple_reads r2 r1 (SeqAt.canLay_of_shaped s2) (SeqAt.canLay_of_shaped s1) ?_ ⟨.bl _, H, I, rfl, q⟩
  exact room_in_shaped s1 hu
theorem op_inTK {X : Cx} {K : PySem.W.Frag} (h : X.K = K) (hu : X.A.units + 65 < cLine) : OpR X (compareOp .In) (rInT K) := by subst h; exact op_inT hu
theorem rd_inT {W : Wd} {P : D → Prop} {x : D} {ys : List D} (hx : x.fine = true) (hy : (D.tup ys).fine = true) (h : P (.bl (ys.any fun y => y.eqv x))) : RD W (rInT W.K) x (.tup ys) P := fun M H v u w r1 r2 Q q => by
  unfold D.fine at hx hy
  simp only [Bool.and_eq_true] at hx hy
  have e : (D.pys ys).any (fun z => PyData.eqv z x.py) = ys.any fun y => y.eqv x := by
    clear h hy r2
    induction ys with
    | nil => rfl
    | cons y ys ih =>
      show (PyData.eqv y.py x.py || _) = (y.eqv x || _)
      rw [ih]
      rfl
  refine ⟨x.py, D.pys ys, dp_of r1 hx.1, dp_of r2 hy.1, hx.2, hy.2, ?_⟩
  rw [e]
  exact q _ _ H w.g (Keep.refl H) (.bl _) h
/-- an __init__ of two rows: self.f = e; self.g = e' -/
theorem init_body2E {K : PySem.W.Frag} {F : FI} {vs : List V} {H : Hp} {Q : VK} {E : XK} {N : List Str} {te tu : TE} {f g : Str} (h : spInit K F vs H Q E) (hfg : f ≠ g)
    (hb : ∀ W C (x : Addr) ds P X, W.K = K → F C ds P X → Cls K C ∧ NoAttr K C f ∧ NoAttr K C g ∧ EvD W te (startD N.length (.obj x :: ds)) fun y => EvD W tu (startD N.length (.obj x :: ds)) fun z => P [f, g] [y, z]) :
    tSeq (sFld K (tVar 0) te f) (sFld K (tVar 0) tu g) { nx := fun _ H' => Q .non H', rt := Q } (L2.start N vs) H := by
  obtain ⟨W, M, x, dx, C, ws, ds, P, X, rfl, e, w, mx, ns, hx, r, hF, q, _⟩ := h
  obtain ⟨c1, c2, c3, hS⟩ := hb W C x ds P X e hF
  subst e
  have r0 : Reps W M H (.ref x :: ws) (.obj x :: ds) := .cons (.obj x) r
  have sl := start_slots N r0
  refine hS M _ H ⟨w, sl⟩ _ fun v y H1 g1 k1 r1 h1 => ?_
  have hx1 : H1 x = some (.ins C dx []) := k1 x _ ns hx
  refine ⟨.ref x, rfl, x, C, dx, [], rfl, hx1, c1, c2, by decide, ?_⟩
  have isL : ∀ s, W.s = some s → s ≠ x := fun s hs e => ns (Wd.S_of hs e.symm)
  have stay : ∀ {fs gs : List (Str × V)} {Hq : Hp}, StOk W Hq → Hq x = some (.ins C dx gs) → StOk W (upd Hq x (.ins C dx fs)) := fun {fs gs Hq} go hq s hs => by
    obtain ⟨n1, i1, d1, m1, a1, a2, a3, a4⟩ := go s hs
    refine ⟨n1, i1, d1, m1, by rw [upd_ne (isL s hs)]; exact a1, a2, ?_, a4⟩
    rw [upd_ne (ne_of a3 hq (by intro z; cases z))]
    exact a3
  have w1 : Wf W M H1 := w.next g1 k1
  have at2 : upd H1 x (.ins C dx [(f, v)]) x = some (.ins C dx [(f, v)]) := upd_same
  have p2 : Pre W M (startD N.length (.obj x :: ds)) (L2.start N (.ref x :: ws)) (upd H1 x (.ins C dx [(f, v)])) := ⟨⟨stay g1 hx1, w1.sm, fun a ha => by
    by_cases z : a = x
    · exact ⟨_, by rw [z]; exact at2⟩
    · obtain ⟨o, ho⟩ := w1.dom a ha
      exact ⟨o, by rw [upd_ne z]; exact ho⟩⟩, sl.len, fun j d hd => by
    obtain ⟨u, a1, a2⟩ := sl.get j d hd
    exact ⟨u, a1, (a2.keep w k1).upd (rdT_ins hx1) mx⟩⟩
  refine h1 M _ _ p2 _ fun v2 z H2 g2 k2 r2 hP => ?_
  have hx2 : H2 x = some (.ins C dx [(f, v)]) := k2 x _ ns at2
  refine ⟨.ref x, rfl, x, C, dx, [(f, v)], rfl, hx2, c1, c3, by show 1 < 1000; decide, ?_⟩
  have ep : putF g v2 [(f, v)] = [(f, v), (g, v2)] := by
    show (if f = g then _ else (f, v) :: putF g v2 []) = _
    rw [if_neg hfg]
    rfl
  show Q .non (upd H2 x (.ins C dx (putF g v2 [(f, v)])))
  rw [ep]
  have up : ∀ {u : V} {d : D}, Rep W M H2 u d → Rep W M (upd H2 x (.ins C dx [(f, v), (g, v2)])) u d := fun r => r.upd (rdT_ins hx2) mx
  refine q _ [(f, v), (g, v2)] [y, z] (stay g2 hx2) (fun a o na nsa ho => ?_) upd_same (.cons (up ((r1.upd (rdT_ins hx1) mx).keep p2.wf k2)) (.cons (up r2) .nil)) hP
  rw [upd_ne na]
  refine k2 a o nsa ?_
  rw [upd_ne na]
  exact k1 a o nsa ho
end PD
namespace PD
open PySem PySem.Spec PyProof.Rows L2
/-- no list of the heap is a tuple of the written part -/
def NoK (K : PySem.W.Frag) (H : Hp) : Prop := ∀ (g : Addr) (vs : List V) (o : Obj), K.lookup g = some o → o.cls = .type "tuple" → H g = some (.lst vs) → False
def tNoK (K : PySem.W.Frag) (t : TE) : TE := fun σ H Q => NoK K H → t σ H Q
theorem pe_noK {X : Cx} {K : PySem.W.Frag} {e : Expr} {t : TE} (hK : X.K = K) (he : PE X e t) : PE X e (tNoK K t) := by
  subst hK
  refine ⟨fun pins s σ H Q I h => he.run pins s σ H Q I (h fun g vs o hk hc hg => ?_)⟩
  obtain ⟨its, _, hl, _⟩ := I.list (SqL.of hg)
  have h1 := I.kIn g o hk
  obtain ⟨o2, h2, c2, _⟩ := hl.isList
  rw [h1] at h2
  cases h2
  rw [hc] at c2
  exact absurd c2 (by decide)
/-- what may stand in a cell here: no list, nor within -/
def cellF (c : D) : Bool := c.nolst && (match c with
  | .non | .bl _ | .int _ | .str _ | .tup _ => true
  | _ => false)
theorem unlendX {W : Wd} {M0 M : Addr → Prop} {H H1 : Hp} {ω : Om} {a : Addr} {vs : List V} {v : V} {d : D} (ow : Own W M0 M H ω) (ho : ∀ x ∈ ω, x.1 = a) (ha : H a = some (.lst vs)) (k : Keep W H H1) (ns : ¬ W.S a) (h : Rep W (fun a => M a ∧ ∀ x ∈ ω, x.1 ≠ a) H1 v d) (n : d.nolst = true) : Rep W M H1 v d := by
  refine (h.withL n).anti fun b m => ?_
  by_cases q : ∀ x ∈ ω, x.1 ≠ b
  · exact .inl ⟨m, q⟩
  · have : ∃ x ∈ ω, x.1 = b := Classical.byContradiction fun z => q fun x hx e => z ⟨x, hx, e⟩
    obtain ⟨x, hx, rfl⟩ := this
    rw [ho x hx]
    exact .inr ⟨vs, k a _ ns ha⟩
section
variable {W : Wd}
/-- grids.append(f(grids)): what comes back is rows of cells, and not the list itself -/
theorem so_appX {Wx : WX} {X : XV → DS → Prop} {ω : Om} {δ : DS} {N : Om → DS → Prop} {R : D → Prop} {B C : Om → DS → Prop} {te : TE} {i j : Nat} {a : Addr} {gl : List D} {r0 : List D} {N0 : GX} (hi : δ[i]? = some (some (.obj a))) (hm : Has ω a gl) (ho : ∀ x ∈ ω, x.1 = a) (hu : gl.length < 100000) (g0 : gl[j]? = some (gridX (r0 :: N0)))
    (h : EvL W te ω δ fun d => ∃ Z, d = gridX Z ∧ (∀ row ∈ Z, ∀ c ∈ row, cellF c = true) ∧ N (putO ω a fun es => es ++ [d]) δ) : SO W Wx (tDrop (tNoK W.K (tBM W.K "list" rAppend (tVar i) (tCons te tNil)))) ω δ N R B C X := fun M0 H0 M1 L1 M σ H E d0 p ow e o nk => by
  obtain ⟨v, s1, r1⟩ := p.sl.get i _ hi
  cases r1
  obtain ⟨hM, n0, ns, nb, vs, ha, rr⟩ := ow a gl hm.1
  obtain ⟨p2, l2⟩ := own_lend p ow
  refine ⟨_, s1, .inl ⟨rfl, _, SqL.of ha⟩, h _ σ H p2 l2 _ fun u d H1 g1 k1 r1 h1 => ?_⟩
  obtain ⟨Z, rfl, hz, hN⟩ := h1
  have ha1 := k1 a _ ns ha
  have rr1 := rr.keep p.wf k1
  -- the item that is a grid
  obtain ⟨vg, eg, rg⟩ := rr.get g0
  have grid : ∃ g w0 ws r q, vg = .ref g ∧ H g = some (.lst (w0 :: ws)) ∧ w0 = .ref r ∧ H r = some (.lst q) ∧ ¬ M g ∧ ¬ M r := by
    cases rg with
    | lst ng hg hrs =>
      cases hrs with
      | cons rw1 _ =>
        cases rw1 with
        | lst nr hr _ => exact ⟨_, _, _, _, _, rfl, hg, rfl, hr, ng, nr⟩
  obtain ⟨g, w0, ws, r, q, rfl, hg, rfl, hr, ng, nr⟩ := grid
  have nsg : ∀ {b : Addr} {o : HO}, ¬ M b → H b = some o → H1 b = some o := fun {b o} nb hb => k1 b o (fun z => nb (p.wf.sm b z)) hb
  have nk1 : ∀ {b : Addr} {o : List V}, ¬ M b → H b = some (.lst o) → ∀ {c : D}, cellF c = true → Rep W (fun a => M a ∧ ∀ x ∈ ω, x.1 ≠ a) H1 (.ref b) c → False := fun {b o} nb hb {c} hc rc => by
    unfold cellF at hc
    simp only [Bool.and_eq_true] at hc
    have hb1 := nsg nb hb
    cases rc with
    | tup hs _ =>
      rcases hs with (h1 | ⟨u, h1⟩) | ⟨o, its, n, hk, hc, _⟩
      · rw [hb1] at h1; cases h1
      · rw [hb1] at h1; cases h1
      · exact nk b _ o hk hc hb
    | lst => exact absurd hc.2 (by simp)
    | st => exact absurd hc.2 (by simp)
    | obj => exact absurd hc.2 (by simp)
    | dct => exact absurd hc.2 (by simp)
    | ins => exact absurd hc.2 (by simp)
    | exc => exact absurd hc.2 (by simp)
    | xob0 => exact absurd hc.2 (by simp)
    | xob => exact absurd hc.2 (by simp)
    | dic => exact absurd hc.2 (by simp)
  have off : ∀ {b : Addr}, ¬ (M b ∧ ∀ x ∈ ω, x.1 ≠ b) → b ≠ a → ¬ M b := fun {b} nb na mb => nb ⟨mb, fun x hx z => na (by rw [← z, ho x hx])⟩
  have rowOk : ∀ {w : V} {row : List D}, (∀ c ∈ row, cellF c = true) → Rep W (fun a => M a ∧ ∀ x ∈ ω, x.1 ≠ a) H1 w (.lst row) → Rep W M H1 w (.lst row) := fun {w row} hc hw => by
    cases hw with
    | @lst b us _ nb hb hrs =>
      have na : b ≠ a := fun z => by
        subst z
        rw [ha1] at hb
        cases hb
        obtain ⟨c, ec, rc⟩ := hrs.got eg
        exact nk1 ng hg (hc c (List.mem_of_getElem? ec)) rc
      refine .lst (off nb na) hb (Reps.of_get hrs.length fun k x d h1 h2 => ?_)
      obtain ⟨d', h3, h4⟩ := hrs.got h1
      rw [h2] at h3
      cases h3
      have cf := hc d (List.mem_of_getElem? h2)
      unfold cellF at cf
      simp only [Bool.and_eq_true] at cf
      exact unlendX ow ho ha k1 ns h4 cf.1
  have ru : Rep W M H1 u (gridX Z) := by
    cases r1 with
    | @lst b us _ nb hb hrs =>
      have na : b ≠ a := fun z => by
        subst z
        rw [ha1] at hb
        cases hb
        obtain ⟨y, ey, ry⟩ := hrs.got eg
        rw [List.getElem?_map] at ey
        cases er : Z[j]? with
        | none => rw [er] at ey; cases ey
        | some row =>
          rw [er] at ey
          cases ey
          cases ry with
          | lst _ hg1 hcs =>
            rw [nsg ng hg] at hg1
            cases hg1
            cases row with
            | nil => cases hcs
            | cons c row =>
              cases hcs with
              | cons rc _ => exact nk1 nr hr (hz _ (List.mem_of_getElem? er) c List.mem_cons_self) rc
      refine .lst (off nb na) hb (Reps.of_get hrs.length fun k x d h1 h2 => ?_)
      obtain ⟨d', h3, h4⟩ := hrs.got h1
      rw [h2] at h3
      cases h3
      rw [List.getElem?_map] at h2
      cases er : Z[k]? with
      | none => rw [er] at h2; cases h2
      | some row =>
        rw [er] at h2
        cases h2
        exact rowOk (hz row (List.mem_of_getElem? er)) h4
  refine ⟨a, vs, u, rfl, rfl, ha1, ?_, ?_⟩
  · rw [rr.length]
    exact Nat.lt_of_lt_of_le hu (by decide)
  · have one : ∀ es, (a, es) ∈ ω → Reps W M H1 (vs ++ [u]) (es ++ [gridX Z]) := fun es m => by
      obtain ⟨_, _, _, _, vs', q1, q2⟩ := ow a es m
      rw [ha] at q1
      cases q1
      exact (q2.keep p.wf k1).append (.cons ru .nil)
    obtain ⟨x1, x2, x3⟩ := own_upd (f := fun es => es ++ [gridX Z]) (p.next g1 k1) (ow.keep p.wf k1) (e.next p.wf k1) d0 hm.1 one
    exact o.nx M _ _ _ _ x1 x2 x3 hN
end
end PD
namespace PD
open PySem PySem.Spec PyProof.Rows L2
def sopF (ps : List (Fr × Fr)) : Fr := ps.foldl (fun s p => addF s (mulF p.1 p.2)) (0, 1)
def sopQ (ps : List (Fr × Fr)) : Rat := ps.foldl (fun s p => s + toQ p.1 * toQ p.2) 0
theorem toQ_add {p q : Fr} (hp : 0 < p.2) (hq : 0 < q.2) : toQ (addF p q) = toQ p + toQ q := by
  unfold addF
  rw [toQ_low (Int.mul_pos hp hq)]
  unfold toQ
  have h1 : p.2 ≠ 0 := by omega
  have h2 : q.2 ≠ 0 := by omega
  rw [Rat.divInt_add_divInt _ _ h1 h2]
theorem isF_mul {p q : Fr} (hp : IsF p) (hq : IsF q) : IsF (mulF p q) := lowF_isF (Int.mul_pos (by have := hp.1; omega) (by have := hq.1; omega))
theorem sop_go : ∀ {ps : List (Fr × Fr)} {s : Fr} {x : Rat}, (∀ p ∈ ps, IsF p.1 ∧ IsF p.2) → IsF s → toQ s = x → IsF (ps.foldl (fun s p => addF s (mulF p.1 p.2)) s) ∧ toQ (ps.foldl (fun s p => addF s (mulF p.1 p.2)) s) = ps.foldl (fun s p => s + toQ p.1 * toQ p.2) x
  | [], s, x, _, hs, e => ⟨hs, e⟩
  | p :: ps, s, x, h, hs, e => by
    obtain ⟨h1, h2⟩ := h p List.mem_cons_self
    have m := isF_mul h1 h2
    refine sop_go (ps := ps) (fun q hq => h q (List.mem_cons_of_mem _ hq)) (addF_isF hs m) ?_
    rw [toQ_add (by have := hs.1; omega) (by have := m.1; omega), toQ_mul (by have := h1.1; omega) (by have := h2.1; omega), e]
theorem sop_ok {ps : List (Fr × Fr)} (h : ∀ p ∈ ps, IsF p.1 ∧ IsF p.2) : IsF (sopF ps) ∧ toQ (sopF ps) = sopQ ps := sop_go h ⟨by decide, by decide⟩ (by decide)
/-- one part more, over the common bottom -/
theorem sop_step {t b a c u w : Int} (hb : 0 < b) (hu : 0 < u) (hw : 0 < w) : 0 < b * (u * w / (Nat.gcd b.natAbs (u * w).natAbs : Nat)) ∧ (∀ B : Int, b ∣ B → u * w ∣ B → b * (u * w / (Nat.gcd b.natAbs (u * w).natAbs : Nat)) ∣ B) ∧
    Rat.divInt (t * (u * w / (Nat.gcd b.natAbs (u * w).natAbs : Nat)) + a * c * (b / (Nat.gcd b.natAbs (u * w).natAbs : Nat))) (b * (u * w / (Nat.gcd b.natAbs (u * w).natAbs : Nat))) = Rat.divInt t b + Rat.divInt a u * Rat.divInt c w := by
  have hv : 0 < u * w := Int.mul_pos hu hw
  generalize hvv : u * w = v at hv
  have g0 : 0 < Nat.gcd b.natAbs v.natAbs := Nat.gcd_pos_of_pos_left _ (by omega)
  obtain ⟨b1, e1⟩ : ((Nat.gcd b.natAbs v.natAbs : Nat) : Int) ∣ b := by
    have := Nat.gcd_dvd_left b.natAbs v.natAbs
    exact Int.dvd_natAbs.mp (Int.ofNat_dvd.mpr this)
  obtain ⟨v1, e2⟩ : ((Nat.gcd b.natAbs v.natAbs : Nat) : Int) ∣ v := by
    have := Nat.gcd_dvd_right b.natAbs v.natAbs
    exact Int.dvd_natAbs.mp (Int.ofNat_dvd.mpr this)
  have lcm : ∀ B : Int, b ∣ B → v ∣ B → b * (v / (Nat.gcd b.natAbs v.natAbs : Nat)) ∣ B := fun B d1 d2 => by
    have h := Nat.lcm_dvd (Int.natAbs_dvd_natAbs.mpr d1) (Int.natAbs_dvd_natAbs.mpr d2)
    have e : (b * (v / (Nat.gcd b.natAbs v.natAbs : Nat))).natAbs = Nat.lcm b.natAbs v.natAbs := by
      unfold Nat.lcm
      rw [Int.natAbs_mul, Nat.mul_div_assoc _ (Nat.gcd_dvd_right _ _)]
      congr 1
      rw [Int.natAbs_ediv_of_dvd (Int.dvd_natAbs.mp (Int.ofNat_dvd.mpr (Nat.gcd_dvd_right _ _)))]
      simp
    exact Int.natAbs_dvd_natAbs.mp (by rw [e]; exact h)
  have g0 : (0 : Int) < ((Nat.gcd b.natAbs v.natAbs : Nat) : Int) := by omega
  generalize ((Nat.gcd b.natAbs v.natAbs : Nat) : Int) = g at e1 e2 lcm g0 ⊢
  have q1 : v / g = v1 := by rw [e2, Int.mul_ediv_cancel_left _ (by omega)]
  have q2 : b / g = b1 := by rw [e1, Int.mul_ediv_cancel_left _ (by omega)]
  rw [q1] at lcm
  rw [q1, q2]
  have v10 : 0 < v1 := by
    rw [e2] at hv
    exact Int.pos_of_mul_pos_right hv (by omega)
  refine ⟨Int.mul_pos hb v10, lcm, ?_⟩
  have n1 : b ≠ 0 := by omega
  have n2 : u * w ≠ 0 := by rw [hvv]; omega
  rw [Rat.divInt_mul_divInt, Rat.divInt_add_divInt _ _ n1 n2, hvv]
  have n3 : b * v1 ≠ 0 := Int.ne_of_gt (Int.mul_pos hb v10)
  have n4 : b * v ≠ 0 := Int.ne_of_gt (Int.mul_pos hb hv)
  rw [Rat.divInt_eq_divInt_iff n3 n4]
  rw [e2]
  have e3 : b = g * b1 := e1
  grind
end PD
namespace PD
open PySem PySem.Spec PyProof.Rows L2
end PD
namespace PD
open PySem PySem.Spec PyProof.Rows L2
/-- a number of so many -/
def isIx (n : Int) (x : D) : Bool := x.isInt && decide (0 ≤ x.toI) && decide (x.toI < n)
end PD
namespace PDSR
open PySem PySem.Spec PyProof.Rows L2
end PDSR
namespace PD
open PySem PySem.Spec PyProof.Rows L2 PDSR
end PD
namespace PD
open PySem PySem.Spec PyProof.Rows L2 PDSR
end PD
namespace PD
open PySem PySem.Spec PyProof.Rows L2
end PD
namespace PD
open PySem PySem.Spec PyProof.Rows L2
end PD
namespace PD
open PySem PySem.Spec PyProof.Rows L2
end PD
namespace PDY
open PySem PySem.Spec PyProof.Rows L2 RZ PDZ
def iZipL (K : PySem.W.Frag) (ta : TA) : TI := fun σ H R => ta σ H fun vs H1 => ∃ ls : List Addr, vs = ls.map V.ref ∧ ls ≠ [] ∧ ls.length ≤ 12 ∧ (∀ l ∈ ls, ∃ xs, SqL K H1 l xs) ∧ R (ItzN K ls) H1
/-- for x in zip(s, t), s and t lists -/
theorem pi_zipLK {X : Cx} {K : PySem.W.Frag} {e e2 : Expr} {ta : TA} {p pos xp : Pos} {x : Str} (hK : X.K = K) (hg : Gl X "zip") (hm : X.mg "zip" = none) (ha : PA X [e, e2] ta)
    (st : starEach [e, e2] X.env = (false, eval e X.env) :: starEach [e2] X.env := by rfl) (pl : (backTo pos (starEach [e2] X.env)).any (·.1) = false := by rfl) : PI X (.Name x xp) (.Call (.Name "zip" p) [e, e2] [] pos) (iZipL K ta) := by
  subst hK
  constructor
  intro pins s σ H R I wish
  refine Call_ (ld_blt I hg hm PyProof.Rows.boot_zip (PyProof.Rows.callWith_type1 (thn (ha.run pos pins s σ H _ I wish) ?_) st pl))
  rintro us s1 ⟨vs, H1, I1, rel, ls, rfl, n1, n2, hl, q⟩
  rw [vals_refs rel]
  have hl2 : ∀ l ∈ ls, ∃ xs, s1.heap.IsList l xs := fun l hm => by
    obtain ⟨xs, hx⟩ := hl l hm
    obtain ⟨ux, _, isx, _⟩ := I1.list hx
    exact ⟨_, isx.isList⟩
  have lt : ∀ l ∈ ls, l < s1.heap.objs.size := fun l hm => by
    obtain ⟨xs, o, ho, _⟩ := hl2 l hm
    exact Heap.lt_size ho
  have pos : 1 ≤ ls.length := List.length_pos_iff.mpr n1
  refine call_zipN (ls := ls) pos n2 hl2 fun h' zp tI tO its kk => ?_
  have hP : (ls.mapIdx fun j l => (s1.heap.objs.size + j, l)).map (·.2) = ls := by
    apply List.ext_getElem?
    intro j
    simp
    cases ls[j]? <;> rfl
  have g : ∀ (j : Nat) (p : Addr × Addr), (ls.mapIdx fun j l => (s1.heap.objs.size + j, l))[j]? = some p → p.1 = s1.heap.objs.size + j ∧ ls[j]? = some p.2 := fun j p hp => by
    rw [List.getElem?_mapIdx] at hp
    cases hj : ls[j]? with
    | none =>
      rw [hj] at hp
      cases hp
    | some l =>
      rw [hj] at hp
      cases hp
      exact ⟨rfl, rfl⟩
  have gm : ∀ p, p ∈ (ls.mapIdx fun j l => (s1.heap.objs.size + j, l)) → ∃ j, j < ls.length ∧ p.1 = s1.heap.objs.size + j ∧ ls[j]? = some p.2 := fun p hp => by
    obtain ⟨j, hj⟩ := List.getElem?_of_mem hp
    obtain ⟨a, b⟩ := g j p hj
    exact ⟨j, (List.getElem?_eq_some_iff.mp b).1, a, b⟩
  generalize hN : s1.heap.objs.size = N at *
  generalize hPP : (ls.mapIdx fun j l => (N + j, l)) = P at *
  have lP : P.length = ls.length := by rw [← hP, List.length_map]
  have q9 : ∀ a b : Nat, a < N → N ≤ b → a ≠ b := fun a b h1 h2 => by omega
  have D : ApartP (N + ls.length + 2) (N + ls.length) (N + ls.length + 1) P :=
    { TIz := Nat.ne_of_lt (by omega), TOz := Nat.ne_of_lt (by omega), TITO := Nat.ne_of_lt (by omega)
      iz := fun p hp => by
        obtain ⟨j, jl, e1, e2⟩ := gm p hp
        have := lt _ (List.mem_of_getElem? e2)
        exact ⟨Nat.ne_of_lt (by omega), Nat.ne_of_lt (by omega), Nat.ne_of_lt (by omega), q9 _ _ (lt _ (List.mem_of_getElem? e2)) (by omega), q9 _ _ (lt _ (List.mem_of_getElem? e2)) (by omega)⟩
      nd := fun j k p q hp hq n => by
        rw [(g j p hp).1, (g k q hq).1]
        exact fun e => n (Nat.add_left_cancel e)
      li := fun p hp q hq => by
        obtain ⟨j, jl, e1, e2⟩ := gm p hp
        obtain ⟨k, kl, e3, e4⟩ := gm q hq
        have := lt _ (List.mem_of_getElem? e2)
        exact q9 _ _ (lt _ (List.mem_of_getElem? e2)) (by omega) }
  have J : Inv X pins σ H1 { s1 with heap := h' } := I1.kept (t' := s1.toks) kk
  have T := turn_zipNL (Pg := X.prog) (w := X.w) (K := X.K) (x := x) (xp := xp) D (fun e => n1 (by rw [← hP, e]; rfl)) (by omega)
  rw [hP] at T
  have eI : itsOf N ls.length = P.map fun p => .ref p.1 := by
    apply List.ext_getElem?
    intro j
    rw [← hPP]
    simp only [itsOf, List.getElem?_map, List.getElem?_mapIdx]
    rcases Nat.lt_or_ge j ls.length with h1 | h1
    · rw [List.getElem?_range h1, List.getElem?_eq_getElem h1]
      rfl
    · rw [List.getElem?_eq_none h1, List.getElem?_eq_none (by simpa using h1)]
      rfl
  have st : ZnSt (N + ls.length + 2) (N + ls.length) (N + ls.length + 1) P 0 h' :=
    ⟨⟨.none, false, .inl rfl, zp⟩, by rw [← eI]; exact tI, ⟨_, by simp [itsOf, lP], tO⟩, fun p hp => by
      obtain ⟨j, jl, e1, e2⟩ := gm p hp
      exact ⟨litO p.2, by rw [e1]; exact its j _ e2, rfl, rfl⟩⟩
  refine T.self _ 0 _ _ _ st ⟨_, _, _, _, H1, rfl, J, T, st, fun c hc => ?_, q⟩
  have le : N ≤ c := by
    simp only [List.mem_cons, List.mem_map] at hc
    rcases hc with rfl | rfl | rfl | ⟨p, hp, rfl⟩
    · omega
    · omega
    · omega
    · obtain ⟨j, jl, e1, e2⟩ := gm p hp
      omega
  rw [← hN] at le
  exact I1.fpOk le (I1.hok.fresh le)
end PDY
namespace PD
open PySem PySem.Spec PyProof.Rows L2 PDY
theorem it_zipLN {W : Wd} {δ : DS} {P : List D → Prop} {ta : TA} (h : EvA W ta δ fun xs => ∃ ds es : List D, xs = [.lst ds, .lst es] ∧ ds.length = es.length ∧ P (zipD ds es)) : IterD W (iZipL W.K ta) δ P := fun M σ H p R q => h M σ H p _ fun vs xs H1 g1 k1 r1 h1 => by
  obtain ⟨ds, es, rfl, hl, hP⟩ := h1
  obtain ⟨ls, rfl, ll, g⟩ := Reps.lists (rows := [ds, es]) r1
  have e : zipD ds es = colD [ds, es] ds.length := by
    apply List.ext_getElem?
    intro i
    unfold zipD colD
    rw [List.getElem?_zipWith, List.getElem?_map]
    rcases Nat.lt_or_ge i ds.length with h1 | h1
    · rw [List.getElem?_range h1]
      simp only [Option.map_some, List.map_cons, List.map_nil, List.getD_eq_getElem?_getD]
      rw [List.getElem?_eq_getElem h1, List.getElem?_eq_getElem (by omega : i < es.length)]
      rfl
    · rw [List.getElem?_eq_none h1, List.getElem?_eq_none (l := List.range ds.length) (by simpa using h1)]
      cases es[i]? <;> rfl
  rw [e] at hP
  refine ⟨ls, rfl, fun z => (by rw [z] at ll; cases ll), by rw [ll]; exact (by decide : 2 ≤ 12), fun l hl => ?_, q _ H1 _ g1 k1 hP (src_zipS (p.wf.next g1 k1) ll (by simp) g (by simp [hl]))⟩
  obtain ⟨j, hj⟩ := List.getElem?_of_mem hl
  obtain ⟨_, xs, _, _, h2, _⟩ := g j l hj
  exact ⟨xs, .inl (.inl h2)⟩
end PD
namespace PD
open PySem PySem.Spec PyProof.Rows L2
theorem hr_65 {k : Nat} {A : Around} (hr : Room k A) : A.units + 65 < cLine := by
  have := hr.un
  omega
/-- [g(x) for x in xs if c(x)], x by what it stands for -/
theorem ev_lcFl {W : Wd} {δ : DS} {P : D → Prop} {α : Type} {wi : TI} {gt : TG} {tt : TT} {te : TE} {vs : List Nat} (xs : List α) (c : α → Bool) (f g : α → D) (h : IterD W wi δ fun ds => ds = xs.map f ∧ xs.length ≤ 100000 ∧
    (∀ (i : Nat) (x : α), xs[i]? = some x → ∃ js, (∀ j ∈ js, j ∈ vs) ∧ GD W gt (f x) (wipeD δ vs) js fun δ2 => EvT W tt δ2 fun b => b = c x ∧ (b = true → EvD W te δ2 fun z => z = g x)) ∧ P (.lst ((xs.filter c).map g))) : EvD W (tLc wi gt tt te vs) δ P :=
  ev_lc fun M σ H p R q => h M σ H p R fun J H1 ds g1 k1 ⟨e, hl, hs, hP⟩ => q J H1 ds g1 k1 ⟨by rw [e, List.length_map]; exact hl, fun i acc => acc = ((xs.take i).filter c).map g, rfl, fun i d acc hd ha => by
    subst e
    rw [List.getElem?_map] at hd
    cases hx : xs[i]? with
    | none => rw [hx] at hd; cases hd
    | some x =>
      rw [hx] at hd
      cases hd
      obtain ⟨js, h1, h2⟩ := hs i x hx
      refine ⟨js, h1, fun M σ H v p r Q q => h2 M σ H v p r Q fun σ' δ' p' e' w' => q σ' δ' p' (et_mid _ e' fun b hb => ?_) w'⟩
      obtain ⟨rfl, hy⟩ := hb
      refine ⟨fun z => ev_mono (hy z) fun y hz => ?_, fun z => ?_⟩
      · show _ = ((xs.take (i + 1)).filter c).map g
        rw [ha, hz, ← take_snoc hx, List.filter_append, List.map_append]
        simp [List.filter, z]
      · show _ = ((xs.take (i + 1)).filter c).map g
        rw [ha, ← take_snoc hx, List.filter_append, List.map_append]
        simp [List.filter, z], fun acc ha => by
    rw [ha, e, List.length_map, List.take_length]
    exact hP⟩
end PD
namespace PD
open PySem PySem.Spec PyProof.Rows L2
def CellsX (Q : D → Prop) (M : GX) : Prop := ∀ row ∈ M, ∀ c ∈ row, Q c
def DimShX (M : GX) (p : Sh) : Prop := ∃ a b : Nat, p = ((a : Int), (b : Int)) ∧ DimX M a b ∧ 1 ≤ a ∧ 1 ≤ b ∧ a ≤ 12 ∧ b ≤ 12
/-- what holds of cells, step by step (m steps); S: may stars be made -/
structure GoodA (A : Al) (m : Nat) (Q : Nat → D → Prop) (S : Prop) : Prop where
  up : ∀ i x, Q i x → Q (i + 1) x
  pl : ∀ i x y, i < m → Q i x → Q i y → A.okP x y ∧ Q (i + 1) (A.pl x y)
  inn : ∀ i r c, i < m → r.length = c.length → 1 ≤ r.length → r.length ≤ 12 → (∀ x ∈ r, Q i x) → (∀ x ∈ c, Q i x) → A.okI r c ∧ Q (i + 1) (A.inn r c)
  st : S → ∀ i n X, i < m → DimX X n n → 1 ≤ n → n ≤ 12 → CellsX (Q i) X → A.okS X ∧ DimX (A.st X) n n ∧ CellsX (Q (i + 1)) (A.st X)
theorem small_inv {o : Option Sh} {q : Sh} (h : small12 o = some q) : o = some q ∧ q.1 ≤ 12 ∧ q.2 ≤ 12 := by
  cases o with
  | none => cases h
  | some p =>
    simp only [small12] at h
    split at h
    · cases h
    · rename_i hh
      have := Option.some.inj h
      subst this
      exact ⟨rfl, by omega, by omega⟩
theorem fit_plus (l : List Int) (p q : Sh) : fitD "plus" l p q = if p = q then some p else none := by unfold fitD twoD; rw [if_neg (by decide), if_neg (by decide), if_neg (by decide), if_pos rfl]
theorem fit_times (l : List Int) (p q : Sh) : fitD "times" l p q = if p.2 = q.1 then some (p.1, q.2) else none := by unfold fitD twoD; rw [if_neg (by decide), if_neg (by decide), if_neg (by decide), if_neg (by decide), if_pos rfl]
theorem fit_beside (l : List Int) (p q : Sh) : fitD "beside" l p q = if p.1 = q.1 then some (p.1, p.2 + q.2) else none := by unfold fitD twoD; rw [if_neg (by decide), if_neg (by decide), if_neg (by decide), if_neg (by decide), if_neg (by decide), if_pos rfl]
theorem fit_above (l : List Int) (p q : Sh) : fitD "above" l p q = if p.2 = q.2 then some (p.1 + q.1, p.2) else none := by unfold fitD twoD; rw [if_neg (by decide), if_neg (by decide), if_neg (by decide), if_neg (by decide), if_neg (by decide), if_neg (by decide)]
theorem fit_turned (l : List Int) (p q : Sh) : fitD "turned" l p q = some (p.2, p.1) := by unfold fitD; rw [if_pos rfl]
theorem fit_star (l : List Int) (p q : Sh) : fitD "star" l p q = if p.1 = p.2 then some p else none := by unfold fitD; rw [if_neg (by decide), if_pos rfl]
theorem fit_piece (a i j r c : Int) (p q : Sh) : fitD "piece" [a, i, j, r, c] p q = pieceD i j r c p := by unfold fitD; rw [if_neg (by decide), if_neg (by decide), if_pos rfl]
theorem src_at {shs : List Sh} {a : Int} (h : okSrc shs.length a = true) : ∃ (n : Nat) (p : Sh), a = (n : Int) ∧ shs[n]? = some p ∧ shAt shs a = p := by
  unfold okSrc at h
  simp only [Bool.and_eq_true, decide_eq_true_eq] at h
  obtain ⟨n, rfl⟩ := Int.eq_ofNat_of_zero_le h.1
  have hn : n < shs.length := by omega
  refine ⟨n, shs[n], rfl, List.getElem?_eq_getElem hn, ?_⟩
  show shs.getD (n : Int).toNat (0, 0) = _
  rw [Int.toNat_natCast, List.getD_eq_getElem?_getD, List.getElem?_eq_getElem hn]
  rfl
theorem GoodA.mono {A : Al} {m : Nat} {Q : Nat → D → Prop} {S : Prop} (g : GoodA A m Q S) {i : Nat} {x : D} : ∀ {j : Nat}, i ≤ j → Q i x → Q j x
  | 0, h, q => by
    obtain rfl : i = 0 := by omega
    exact q
  | j + 1, h, q => by
    by_cases e : i = j + 1
    · rw [← e]
      exact q
    · exact g.up j x (g.mono (by omega) q)
theorem zipw_mem {α β γ : Type} {f : α → β → γ} {xs : List α} {ys : List β} {z : γ} (h : z ∈ List.zipWith f xs ys) : ∃ x y, (x, y) ∈ xs.zip ys ∧ z = f x y := by
  rw [← List.map_uncurry_zip_eq_zipWith] at h
  obtain ⟨⟨x, y⟩, h1, rfl⟩ := List.mem_map.mp h
  exact ⟨x, y, h1, rfl⟩
theorem DimX.sums {A : Al} {X Y : GX} {r c : Nat} (d : DimX X r c) (d' : DimX Y r c) : DimX (A.sums X Y) r c := ⟨by unfold Al.sums; rw [List.length_zipWith, d.1, d'.1, Nat.min_self], fun row h => by
  obtain ⟨x, y, m, rfl⟩ := zipw_mem h
  rw [List.length_zipWith, d.2 x (List.of_mem_zip m).1, d'.2 y (List.of_mem_zip m).2, Nat.min_self]⟩
theorem DimX.prod {A : Al} {X Y : GX} {r m c : Nat} (d : DimX X r m) : DimX (A.prod X Y c) r c := ⟨by unfold Al.prod; rw [List.length_map, d.1], fun row h => by
  obtain ⟨x, hx, rfl⟩ := List.mem_map.mp h
  rw [List.length_map, colsX_len]⟩
theorem DimX.beside {X Y : GX} {r m c : Nat} (d : DimX X r m) (d' : DimX Y r c) : DimX (List.zipWith (· ++ ·) X Y) r (m + c) := ⟨by rw [List.length_zipWith, d.1, d'.1, Nat.min_self], fun row h => by
  obtain ⟨x, y, m, rfl⟩ := zipw_mem h
  rw [List.length_append, d.2 x (List.of_mem_zip m).1, d'.2 y (List.of_mem_zip m).2]⟩
theorem DimX.above {X Y : GX} {r m c : Nat} (d : DimX X r c) (d' : DimX Y m c) : DimX (X ++ Y) (r + m) c := ⟨by rw [List.length_append, d.1, d'.1], fun row h => by
  rcases List.mem_append.mp h with h | h
  · exact d.2 row h
  · exact d'.2 row h⟩
theorem DimX.piece {X : GX} {i j h w r c : Nat} (d : DimX X r c) (hr : i + h ≤ r) (hc : j + w ≤ c) : DimX (((X.drop i).take h).map fun row => (row.drop j).take w) h w := ⟨by rw [List.length_map, List.length_take, List.length_drop, d.1]; omega, fun row hm => by
  obtain ⟨x, hx, rfl⟩ := List.mem_map.mp hm
  rw [List.length_take, List.length_drop, d.2 x (List.mem_of_mem_drop (List.mem_of_mem_take hx))]
  omega⟩
theorem cells_up {Q Q' : D → Prop} {M : GX} (h : CellsX Q M) (u : ∀ x, Q x → Q' x) : CellsX Q' M := fun row hr c hc => u c (h row hr c hc)
theorem cells_cols {Q : D → Prop} {X : GX} {r c : Nat} (d : DimX X r c) (h : CellsX Q X) : CellsX Q (colsX X c) := fun row hr x hx => by
  obtain ⟨j, hj, rfl⟩ := List.mem_map.mp hr
  obtain ⟨y, hy, rfl⟩ := List.mem_map.mp hx
  have jl : j < y.length := by rw [d.2 y hy]; exact List.mem_range.mp hj
  rw [List.getD_eq_getElem?_getD, List.getElem?_eq_getElem jl]
  exact h y hy _ (List.getElem_mem jl)
theorem cells_beside {Q : D → Prop} {X Y : GX} (h : CellsX Q X) (h' : CellsX Q Y) : CellsX Q (List.zipWith (· ++ ·) X Y) := fun row hr x hx => by
  obtain ⟨a, b, m, rfl⟩ := zipw_mem hr
  rcases List.mem_append.mp hx with hx | hx
  · exact h a (List.of_mem_zip m).1 x hx
  · exact h' b (List.of_mem_zip m).2 x hx
theorem cells_above {Q : D → Prop} {X Y : GX} (h : CellsX Q X) (h' : CellsX Q Y) : CellsX Q (X ++ Y) := fun row hr x hx => by
  rcases List.mem_append.mp hr with hr | hr
  · exact h row hr x hx
  · exact h' row hr x hx
theorem cells_piece {Q : D → Prop} {X : GX} {i j a w : Nat} (h : CellsX Q X) : CellsX Q (((X.drop i).take a).map fun row => (row.drop j).take w) := fun row hr x hx => by
  obtain ⟨y, hy, rfl⟩ := List.mem_map.mp hr
  exact h y (List.mem_of_mem_drop (List.mem_of_mem_take hy)) x (List.mem_of_mem_drop (List.mem_of_mem_take hx))
theorem mkx_ex {A : Al} {m t : Nat} {Q : Nat → D → Prop} {S : Prop} (gA : GoodA A m Q S) (tm : t < m) {G : Nat → Option GX} {shs : List Sh} {k : Str} {l : List Int} {q : Sh} (hS : k = "star" → S) (hG : ∀ a p, shs[a]? = some p → ∃ M, G a = some M ∧ DimShX M p ∧ CellsX (Q t) M) (hk : kindLen.lookup k = some ((l.length : Int) + 1)) (h : madeD shs (stD k l) = some q) : ∃ M, MkX A G k l M ∧ DimShX M q ∧ CellsX (Q (t + 1)) M := by
  unfold madeD at h
  rw [stepOf_stD hk] at h
  simp only at h
  split at h
  case isFalse => cases h
  rename_i hall
  obtain ⟨hf, q1, q2⟩ := small_inv h
  have two : kindLen.lookup k = some 3 → (l.length : Int) + 1 = 3 → ∃ (a b : Nat) (M N : GX) (p1 p2 : Sh), l = [(a : Int), (b : Int)] ∧ G a = some M ∧ G b = some N ∧ DimShX M p1 ∧ CellsX (Q t) M ∧ DimShX N p2 ∧ CellsX (Q t) N ∧ fitD k l p1 p2 = some q := fun k3 hl => by
    obtain _ | ⟨a, _ | ⟨b, _ | ⟨_, _⟩⟩⟩ := l <;> simp only [List.length_cons, List.length_nil] at hl <;> try omega
    unfold srcs at hall
    rw [if_pos k3] at hall
    obtain ⟨x, p1, rfl, e1, f1⟩ := src_at (List.all_eq_true.mp hall a (by simp))
    obtain ⟨y, p2, rfl, e2, f2⟩ := src_at (List.all_eq_true.mp hall b (by simp))
    obtain ⟨M, m1, m2, m3⟩ := hG _ _ e1
    obtain ⟨N, n1, n2, n3⟩ := hG _ _ e2
    refine ⟨x, y, M, N, p1, p2, rfl, m1, n1, m2, m3, n2, n3, ?_⟩
    rw [← hf]
    show _ = fitD k _ (shAt shs ((x : Nat) : Int)) (shAt shs ((y : Nat) : Int))
    rw [f1, f2]
  have one : kindLen.lookup k ≠ some 3 → ∀ a r, l = a :: r → ∃ (x : Nat) (M : GX) (p1 p2 : Sh), a = (x : Int) ∧ G x = some M ∧ DimShX M p1 ∧ CellsX (Q t) M ∧ fitD k l p1 p2 = some q := fun k3 a r hl => by
    subst hl
    unfold srcs at hall
    rw [if_neg k3] at hall
    obtain ⟨x, p1, rfl, e1, f1⟩ := src_at (List.all_eq_true.mp hall a (by simp))
    obtain ⟨M, m1, m2, m3⟩ := hG _ _ e1
    refine ⟨x, M, p1, shAt shs (((x : Int) :: r).getD 1 0), rfl, m1, m2, m3, ?_⟩
    rw [← hf]
    show _ = fitD k _ (shAt shs ((x : Nat) : Int)) _
    rw [f1]
  have k1 : (l.length : Int) + 1 = 2 → ∃ a, l = [a] := fun h => by
    obtain _ | ⟨a, _ | ⟨b, _⟩⟩ := l <;> simp only [List.length_cons, List.length_nil] at h <;> first | omega | exact ⟨_, rfl⟩
  rcases kind_cases hk with ⟨rfl, e⟩ | ⟨rfl, e⟩ | ⟨rfl, e⟩ | ⟨rfl, e⟩ | ⟨rfl, e⟩ | ⟨rfl, e⟩ | ⟨rfl, e⟩
  · obtain ⟨a, b, M, N, p1, p2, rfl, gM, gN, ⟨x, y, rfl, d, x1, y1, x2, y2⟩, cM, ⟨x', y', rfl, d', x1', y1', x2', y2'⟩, cN, hq⟩ := two (by decide) e
    rw [fit_plus] at hq
    split at hq
    · rename_i e
      simp only [Prod.mk.injEq] at e
      obtain ⟨e1, e2⟩ := e
      obtain rfl : x = x' := by omega
      obtain rfl : y = y' := by omega
      cases hq
      have each : ∀ p ∈ M.zip N, ∀ q ∈ p.1.zip p.2, A.okP q.1 q.2 ∧ Q (t + 1) (A.pl q.1 q.2) := fun p hp q hq => gA.pl t _ _ tm (cM p.1 (List.of_mem_zip hp).1 _ (List.of_mem_zip hq).1) (cN p.2 (List.of_mem_zip hp).2 _ (List.of_mem_zip hq).2)
      refine ⟨_, .plus gM gN d d' x2 y2 fun p hp q hq => (each p hp q hq).1, ⟨x, y, rfl, d.sums d', x1, y1, x2, y2⟩, fun row hr c hc => ?_⟩
      obtain ⟨u, v, h1, rfl⟩ := zipw_mem hr
      obtain ⟨u', v', h2, rfl⟩ := zipw_mem hc
      exact (each _ h1 _ h2).2
    · cases hq
  · obtain ⟨a, b, M, N, p1, p2, rfl, gM, gN, ⟨x, y, rfl, d, x1, y1, x2, y2⟩, cM, ⟨x', y', rfl, d', x1', y1', x2', y2'⟩, cN, hq⟩ := two (by decide) e
    rw [fit_times] at hq
    split at hq
    · rename_i e
      simp only at e
      obtain rfl : y = x' := by omega
      cases hq
      have each : ∀ row ∈ M, ∀ col ∈ colsX N y', A.okI row col ∧ Q (t + 1) (A.inn row col) := fun row hr col hc => gA.inn t row col tm (by rw [d.2 row hr, (dim_colsX d').2 col hc]) (by rw [d.2 row hr]; exact y1) (by rw [d.2 row hr]; exact y2) (cM row hr) (cells_cols d' cN col hc)
      refine ⟨_, .times gM gN d d' y1 x2 y2 y2' fun row hr col hc => (each row hr col hc).1, ⟨x, y', rfl, d.prod, x1, y1', x2, y2'⟩, fun row hr c hc => ?_⟩
      obtain ⟨u, h1, rfl⟩ := List.mem_map.mp hr
      obtain ⟨v, h2, rfl⟩ := List.mem_map.mp hc
      exact (each _ h1 _ h2).2
    · cases hq
  · obtain ⟨a, rfl⟩ := k1 e
    obtain ⟨a, M, p1, p2, rfl, gM, ⟨x, y, rfl, d, x1, y1, x2, y2⟩, cM, hq⟩ := one (by decide) _ _ rfl
    rw [fit_turned] at hq
    cases hq
    exact ⟨_, .turned gM d x1 x2 y2, ⟨y, x, rfl, dim_colsX d, y1, x1, y2, x2⟩, cells_up (cells_cols d cM) (gA.up t)⟩
  · obtain ⟨a, b, M, N, p1, p2, rfl, gM, gN, ⟨x, y, rfl, d, x1, y1, x2, y2⟩, cM, ⟨x', y', rfl, d', x1', y1', x2', y2'⟩, cN, hq⟩ := two (by decide) e
    rw [fit_beside] at hq
    split at hq
    · rename_i e
      simp only at e
      obtain rfl : x = x' := by omega
      cases hq
      simp only at q1 q2
      exact ⟨_, .beside gM gN d d' x2 y2 y2', ⟨x, y + y', by simp, d.beside d', x1, by omega, x2, by omega⟩, cells_up (cells_beside cM cN) (gA.up t)⟩
    · cases hq
  · obtain ⟨a, b, M, N, p1, p2, rfl, gM, gN, ⟨x, y, rfl, d, x1, y1, x2, y2⟩, cM, ⟨x', y', rfl, d', x1', y1', x2', y2'⟩, cN, hq⟩ := two (by decide) e
    rw [fit_above] at hq
    split at hq
    · rename_i e
      simp only at e
      obtain rfl : y = y' := by omega
      cases hq
      simp only at q1 q2
      exact ⟨_, .above gM gN d d' x2 x2' y2, ⟨x + x', y, by simp, d.above d', by omega, y1, by omega, y2⟩, cells_up (cells_above cM cN) (gA.up t)⟩
    · cases hq
  · have l5 : ∃ a i j r c, l = [a, i, j, r, c] := by
      have h := e
      obtain _ | ⟨a, _ | ⟨b, _ | ⟨c, _ | ⟨d, _ | ⟨e, _ | ⟨_, _⟩⟩⟩⟩⟩⟩ := l <;> simp only [List.length_cons, List.length_nil] at h <;> first | omega | exact ⟨_, _, _, _, _, rfl⟩
    obtain ⟨a, i, j, r, c, rfl⟩ := l5
    obtain ⟨a, M, p1, p2, rfl, gM, ⟨x, y, rfl, d, x1, y1, x2, y2⟩, cM, hq⟩ := one (by decide) _ _ rfl
    rw [fit_piece] at hq
    unfold pieceD at hq
    split at hq
    · cases hq
    rename_i n1
    split at hq
    · cases hq
    rename_i n2
    cases hq
    simp only at n2
    obtain ⟨i, rfl⟩ := Int.eq_ofNat_of_zero_le (a := i) (by omega)
    obtain ⟨j, rfl⟩ := Int.eq_ofNat_of_zero_le (a := j) (by omega)
    obtain ⟨r, rfl⟩ := Int.eq_ofNat_of_zero_le (a := r) (by omega)
    obtain ⟨c, rfl⟩ := Int.eq_ofNat_of_zero_le (a := c) (by omega)
    have hr : i + r ≤ x := by omega
    have hc : j + c ≤ y := by omega
    exact ⟨_, .piece gM d hr hc (by omega) (by omega) x2 y2, ⟨r, c, rfl, d.piece hr hc, by omega, by omega, by omega, by omega⟩, cells_up (cells_piece cM) (gA.up t)⟩
  · obtain ⟨a, rfl⟩ := k1 e
    obtain ⟨a, M, p1, p2, rfl, gM, ⟨x, y, rfl, d, x1, y1, x2, y2⟩, cM, hq⟩ := one (by decide) _ _ rfl
    rw [fit_star] at hq
    split at hq
    · rename_i e
      simp only at e
      obtain rfl : x = y := by omega
      cases hq
      obtain ⟨s1, s2, s3⟩ := gA.st (hS rfl) t x M tm d x1 x2 cM
      exact ⟨_, .star gM d x1 x2 s1, ⟨x, x, rfl, s2, x1, x1, x2, x2⟩, s3⟩
    · cases hq
theorem nolst_nref {d : D} : d.nref = true → d.nolst = true := by
  have all : ∀ n : Nat, ∀ d : D, sizeOf d < n → d.nref = true → d.nolst = true := fun n => by
    induction n with
    | zero => intro d h; omega
    | succ n ih =>
      intro d h hr
      cases d with
      | tup xs =>
        show D.nolsts xs = true
        have hr : D.nrefs xs = true := hr
        have hs : ∀ x ∈ xs, sizeOf x < n := fun x hx => by
          have := List.sizeOf_lt_of_mem hx
          simp at h
          omega
        clear h
        induction xs with
        | nil => rfl
        | cons x xs ihx =>
          simp only [D.nrefs, Bool.and_eq_true] at hr
          simp only [D.nolsts, Bool.and_eq_true]
          exact ⟨ih x (hs x List.mem_cons_self) hr.1, ihx hr.2 hr.2 fun y hy => hs y (List.mem_cons_of_mem _ hy)⟩
      | lst xs => simp [D.nref] at hr
      | ins _ _ xs => simp [D.nref] at hr
      | exc _ _ _ xs => simp [D.nref] at hr
      | xob _ _ xs => simp [D.nref] at hr
      | dic _ xs => simp [D.nref] at hr
      | _ => rfl
  exact all _ d (Nat.lt_succ_self _)
theorem nolsts_of {xs : List D} (h : ∀ x ∈ xs, x.nolst = true) : D.nolsts xs = true := by
  induction xs with
  | nil => rfl
  | cons x xs ih =>
    simp only [D.nolsts, Bool.and_eq_true]
    exact ⟨h x List.mem_cons_self, ih fun y hy => h y (List.mem_cons_of_mem _ hy)⟩
/-- data by what they stand for -/
theorem map_of {α : Type} {f : α → D} {Q : α → Prop} : ∀ {l : List D}, (∀ e ∈ l, ∃ x, e = f x ∧ Q x) → ∃ xs : List α, l = xs.map f ∧ ∀ x ∈ xs, Q x
  | [], _ => ⟨[], rfl, fun _ h => by cases h⟩
  | e :: l, h => by
    obtain ⟨x, rfl, hx⟩ := h e List.mem_cons_self
    obtain ⟨xs, rfl, hxs⟩ := map_of (l := l) fun y hy => h y (List.mem_cons_of_mem _ hy)
    exact ⟨x :: xs, rfl, fun y hy => by
      rcases List.mem_cons.mp hy with rfl | hy
      · exact hx
      · exact hxs y hy⟩
/-- grids that a script may have -/
structure GsOk (n : Int) (gs : List (D × List (List D))) : Prop where
  one : 1 ≤ gs.length
  few : gs.length ≤ 6
  all : ∀ x ∈ gs, x.1 = .int n ∧ ∃ w, Grd n w (x.2.map .tup)
theorem GsOk.row {n : Int} {gs : List (D × List (List D))} (h : GsOk n gs) {x : D × List (List D)} (hx : x ∈ gs) : ∃ w : Nat, 1 ≤ x.2.length ∧ x.2.length ≤ 10 ∧ 1 ≤ w ∧ w ≤ 10 ∧ (∀ y ∈ x.2, y.length = w ∧ ∀ c ∈ y, isCl n c = true) ∧ ∀ CG, shG (gridD CG x) = ((x.2.length : Int), (w : Int)) := by
  obtain ⟨e, w, g⟩ := h.all x hx
  obtain ⟨b, rows⟩ := x
  have l1 := g.l1
  have l10 := g.l10
  rw [List.length_map] at l1 l10
  refine ⟨w, l1, l10, g.m1, g.m10, fun y hy => ?_, fun CG => ?_⟩
  · obtain ⟨cs, e, h1, h2⟩ := g.row (.tup y) (List.mem_map.mpr ⟨y, hy, rfl⟩)
    cases e
    exact ⟨h1, h2⟩
  · obtain ⟨cs, _, _, hh⟩ := g.head
    show (((rows.map D.tup).length : Int), ((rows.map D.tup).headD .non).len) = _
    rw [hh, List.length_map]
theorem GsOk.nl {n : Int} {CG : Addr} {gs : List (D × List (List D))} (h : GsOk n gs) {x : D × List (List D)} (hx : x ∈ gs) : (gridD CG x).nolst = true := by
  obtain ⟨w, _, _, _, _, a5, _⟩ := h.row hx
  obtain ⟨e, _⟩ := h.all x hx
  show (x.1.nolst && (D.nolsts (x.2.map .tup) && true)) = true
  rw [e]
  simp only [D.nolst, Bool.true_and, Bool.and_true]
  refine nolsts_of fun y hy => ?_
  obtain ⟨r, hr, rfl⟩ := List.mem_map.mp hy
  exact nolst_nref (nref_tup fun c hc => cl_nref ((a5 r hr).2 c hc))
theorem runx_ex {A : Al} {m : Nat} {Q : Nat → D → Prop} {S : Prop} (gA : GoodA A m Q S) : ∀ {sts : List (Str × List Int)} {shs r : List Sh} {F0 : List GX} {k t : Nat}, t + sts.length ≤ m → (∀ s ∈ sts, s.1 = "star" → S) → F0.length = shs.length → (∀ (i : Nat) (M : GX) (p : Sh), F0[i]? = some M → shs[i]? = some p → DimShX M p ∧ CellsX (Q t) M) → (∀ s ∈ sts, kindLen.lookup s.1 = some ((s.2.length : Int) + 1)) → runS shs (sts.map fun s => stD s.1 s.2) k = .inl r →
    ∃ F1 : List GX, F1.length = sts.length ∧ r.length = shs.length + sts.length ∧ (∀ (i : Nat) (M : GX) (p : Sh), (F0 ++ F1)[i]? = some M → r[i]? = some p → DimShX M p ∧ CellsX (Q (t + (i + 1 - F0.length))) M) ∧ ∀ (i : Nat) (s : Str × List Int), sts[i]? = some s → ∃ M, F1[i]? = some M ∧ MkX A (fun a => if a < F0.length + i then (F0 ++ F1)[a]? else none) s.1 s.2 M
  | [], shs, r, F0, k, t, ht, hst, hl, hd, _, hr => by
    cases hr
    exact ⟨[], rfl, rfl, fun i M p hM hp => by
      rw [List.append_nil] at hM
      have il := (List.getElem?_eq_some_iff.mp hM).1
      rw [show i + 1 - F0.length = 0 by omega]
      exact hd i M p hM hp, fun i s h => by cases h⟩
  | s :: sts, shs, r, F0, k, t, ht, hst, hl, hd, hk, hr => by
    have hr : (match madeD shs (stD s.1 s.2) with
      | none => .inr k
      | some p => runS (shs ++ [p]) (sts.map fun s => stD s.1 s.2) (k + 1)) = Sum.inl r := hr
    cases hm : madeD shs (stD s.1 s.2) with
    | none => rw [hm] at hr; cases hr
    | some p =>
      rw [hm] at hr
      have ht : t + (sts.length + 1) ≤ m := ht
      obtain ⟨M, mk, dm, cm⟩ := mkx_ex gA (t := t) (by omega) (G := fun a => F0[a]?) (hst s List.mem_cons_self) (fun a q ha => by
        have hla : a < F0.length := by rw [hl]; exact (List.getElem?_eq_some_iff.mp ha).1
        have hh := hd a _ q (List.getElem?_eq_getElem hla) ha
        exact ⟨_, List.getElem?_eq_getElem hla, hh.1, hh.2⟩) (hk s List.mem_cons_self) hm
      obtain ⟨F1, l1, lr, d1, m1⟩ := runx_ex gA (sts := sts) (shs := shs ++ [p]) (F0 := F0 ++ [M]) (t := t + 1) (by omega) (fun x hx => hst x (List.mem_cons_of_mem _ hx)) (by rw [List.length_append, List.length_append, hl]; rfl) (fun i N q hN hq => by
        by_cases q1 : i < F0.length
        · rw [List.getElem?_append_left q1] at hN
          rw [List.getElem?_append_left (by rw [← hl]; exact q1)] at hq
          exact ⟨(hd i N q hN hq).1, cells_up (hd i N q hN hq).2 (gA.up t)⟩
        · rw [List.getElem?_append_right (by omega)] at hN
          rw [List.getElem?_append_right (by rw [← hl]; omega)] at hq
          rw [← hl] at hq
          cases e : i - F0.length with
          | zero =>
            rw [e] at hN hq
            cases hN
            cases hq
            exact ⟨dm, cm⟩
          | succ j => rw [e] at hN; cases hN) (fun x hx => hk x (List.mem_cons_of_mem _ hx)) hr
      have ea : F0 ++ [M] ++ F1 = F0 ++ (M :: F1) := by simp
      rw [ea] at d1
      have d1 : ∀ (i : Nat) (N : GX) (q : Sh), (F0 ++ M :: F1)[i]? = some N → r[i]? = some q → DimShX N q ∧ CellsX (Q (t + (i + 1 - F0.length))) N := fun i N q hN hq => by
        obtain ⟨y1, y2⟩ := d1 i N q hN hq
        refine ⟨y1, ?_⟩
        by_cases q1 : i < F0.length
        · rw [List.getElem?_append_left q1] at hN
          rw [show i + 1 - F0.length = 0 by omega]
          exact (hd i N _ hN (List.getElem?_eq_getElem (by rw [← hl]; exact q1))).2
        · rw [List.length_append] at y2
          rw [show t + (i + 1 - F0.length) = t + 1 + (i + 1 - (F0.length + [M].length)) by simp; omega]
          exact y2
      refine ⟨M :: F1, by simp [l1], by rw [lr, List.length_append]; simp; omega, d1, fun i t ht => ?_⟩
      cases i with
      | zero =>
        cases ht
        refine ⟨M, rfl, ?_⟩
        have ef : (fun a => if a < F0.length + 0 then (F0 ++ M :: F1)[a]? else none) = fun a => F0[a]? := by
          funext a
          by_cases q : a < F0.length
          · rw [if_pos (by omega), List.getElem?_append_left q]
          · rw [if_neg (by omega), List.getElem?_eq_none (by omega)]
        rw [ef]
        exact mk
      | succ i =>
        obtain ⟨N, hN, mN⟩ := m1 i t ht
        refine ⟨N, hN, ?_⟩
        rw [ea] at mN
        have el : (F0 ++ [M]).length + i = F0.length + (i + 1) := by rw [List.length_append]; simp; omega
        rw [el] at mN
        exact mN
theorem scx_ex {A : Al} {m : Nat} {Q : Nat → D → Prop} {S : Prop} (gA : GoodA A m Q S) {n : Int} {CG : Addr} {gs : List (D × List (List D))} {sts : List (Str × List Int)} {r : List Sh} (h : GsOk n gs) (hf : sts.length ≤ 16) (hm : sts.length ≤ m) (hs : ∀ s ∈ sts, s.1 = "star" → S)
    (hp : ∀ (i : Nat) (x : D × List (List D)), gs[i]? = some x → ∀ (a b : Nat) (row : List D) (u : D), x.2[a]? = some row → row[b]? = some u → (u.isNon = false → A.okU i a b u) ∧ Q 0 (A.cell i a b u))
    (hk : ∀ s ∈ sts, kindLen.lookup s.1 = some ((s.2.length : Int) + 1)) (hr : runS (gs.map fun x => shG (gridD CG x)) (sts.map fun s => stD s.1 s.2) 0 = .inl r) : ∃ F, ScX A CG gs sts F r ∧ ∀ (i : Nat) (M : GX), F[i]? = some M → CellsX (Q (i + 1 - gs.length)) M := by
  have cell : ∀ (i : Nat) (x : D × List (List D)), gs[i]? = some x → CellsX (Q 0) (A.putG i x.2) := fun i x hx row hr c hc => by
    obtain ⟨a, ha, rfl⟩ := List.mem_map.mp hr
    obtain ⟨b, hb, rfl⟩ := List.mem_map.mp hc
    have al := List.mem_range.mp ha
    have bl := List.mem_range.mp hb
    have e1 : x.2[a]? = some (x.2.getD a []) := by rw [List.getD_eq_getElem?_getD, List.getElem?_eq_getElem al]; rfl
    have e2 : (x.2.getD a [])[b]? = some ((x.2.getD a []).getD b .non) := listX_at bl
    exact (hp i x hx a b _ _ e1 e2).2
  obtain ⟨F1, l1, lr, d1, m1⟩ := runx_ex gA (t := 0) (F0 := gs.mapIdx fun i x => A.putG i x.2) (by omega) hs (by rw [List.length_mapIdx, List.length_map]) (fun i M p hM hp => by
    rw [List.getElem?_mapIdx] at hM
    rw [List.getElem?_map] at hp
    cases e : gs[i]? with
    | none => rw [e] at hM; cases hM
    | some x =>
      rw [e] at hM hp
      cases hM
      cases hp
      obtain ⟨w, a1, a2, a3, a4, a5, a6⟩ := h.row (List.mem_of_getElem? e)
      refine ⟨?_, cell i x e⟩
      show DimShX _ (shG (gridD CG x))
      rw [a6]
      refine ⟨_, w, rfl, ⟨by simp [Al.putG], fun row hr => ?_⟩, a1, a3, by omega, by omega⟩
      obtain ⟨a, ha, rfl⟩ := List.mem_map.mp hr
      have al := List.mem_range.mp ha
      have e1 : x.2.getD a [] ∈ x.2 := by
        rw [List.getD_eq_getElem?_getD, List.getElem?_eq_getElem al]
        exact List.getElem_mem al
      simp only [Al.putRow, List.length_map, List.length_range]
      exact (a5 _ e1).1) hk hr
  rw [List.length_map] at lr
  rw [List.length_mapIdx] at m1
  have few := h.few
  have lF : (gs.mapIdx (fun i x => A.putG i x.2) ++ F1).length = gs.length + sts.length := by rw [List.length_append, List.length_mapIdx, l1]
  refine ⟨_, ⟨h.one, by omega, lF, lr, fun i x hx => ?_, fun i s hs => ?_, fun x hx => h.nl hx, fun i M p hM hp => (d1 i M p hM hp).1⟩, fun i M hi => ?_⟩
  · obtain ⟨w, a1, a2, a3, a4, a5, a6⟩ := h.row (List.mem_of_getElem? hx)
    have hi := (List.getElem?_eq_some_iff.mp hx).1
    refine ⟨?_, by omega, fun y hy => by rw [(a5 y hy).1]; omega, fun a b row u h1 h2 h3 => (hp i x hx a b row u h1 h2).1 h3⟩
    rw [List.getElem?_append_left (by rw [List.length_mapIdx]; exact hi), List.getElem?_mapIdx, hx]
    rfl
  · obtain ⟨M, hM, mM⟩ := m1 i s hs
    refine ⟨M, ?_, mM⟩
    rw [List.getElem?_append_right (by rw [List.length_mapIdx]; omega), List.length_mapIdx, Nat.add_sub_cancel_left]
    exact hM
  · have il := (List.getElem?_eq_some_iff.mp hi).1
    rw [lF, ← lr] at il
    have := (d1 i M _ hi (List.getElem?_eq_getElem il)).2
    rw [Nat.zero_add, List.length_mapIdx] at this
    exact this
end PD
namespace PD
open PySem PySem.Spec PyProof.Rows L2
structure DegF (B V : Int) (d : Nat) (p : Fr) : Prop where
  f : IsF p
  n : 0 ≤ p.1
  b : p.2 ∣ B ^ d
  v : 16 * p.1 ≤ V ^ d * p.2
abbrev bGreat : Int := 693 * 10 ^ 30
abbrev vGreat : Int := 2 ^ 134
def BV (n : Nat) (B V : Int) : Prop := (B = 27720 ∧ V = 192 ∧ n ≤ 6) ∨ (B = bGreat ∧ V = vGreat ∧ n ≤ 3)
theorem BV.b1 {n : Nat} {B V : Int} (h : BV n B V) : 1 ≤ B := by
  rcases h with ⟨rfl, _⟩ | ⟨rfl, _⟩ <;> decide
theorem BV.v2 {n : Nat} {B V : Int} (h : BV n B V) : 2 ≤ V := by
  rcases h with ⟨_, rfl, _⟩ | ⟨_, rfl, _⟩ <;> decide
theorem pow_bits {B : Int} {k d : Nat} (h : B.natAbs < 2 ^ k) (hd : 1 ≤ d) : (B ^ d).natAbs < 2 ^ (k * d) := by
  rw [Int.natAbs_pow, Nat.pow_mul]
  exact Nat.pow_lt_pow_left h (by omega)
theorem two_pow_le {n m : Nat} (h : n ≤ m) : 2 ^ n ≤ 2 ^ m := Nat.pow_le_pow_right (by decide) h
/-- what a script of n steps may make is small -/
theorem BV.sz {n k : Nat} {B V : Int} (h : BV n B V) (hk : k ≤ n) {p : Fr} (hp : DegF B V (2 ^ k) p) : Sz 2000 p := by
  have d1 : 1 ≤ 2 ^ k := Nat.one_le_two_pow
  have key : ∀ {a b m : Nat}, B.natAbs < 2 ^ a → V.natAbs < 2 ^ b → 2 ^ k ≤ m → (a + b) * m ≤ 2000 → Sz 2000 p := fun {a b m} ha hb hm hh => by
    have b1 := h.b1
    have p0 : 0 < p.2 := by have := hp.f.1; omega
    have hB := pow_bits ha d1
    have hV := pow_bits hb d1
    have s2 : p.2.natAbs < 2 ^ (a * 2 ^ k) := Nat.lt_of_le_of_lt (Nat.le_of_dvd (by
      have : B ^ 2 ^ k ≠ 0 := Int.pow_ne_zero (by omega)
      omega) (Int.natAbs_dvd_natAbs.mpr hp.b)) hB
    have s1 : p.1.natAbs < 2 ^ (b * 2 ^ k + a * 2 ^ k) := by
      have n0 := hp.n
      have le := hp.v
      have : p.1.natAbs ≤ (V ^ 2 ^ k * p.2).natAbs := by omega
      exact Nat.lt_of_le_of_lt this (mul_lt hV s2)
    have e : b * 2 ^ k + a * 2 ^ k = (a + b) * 2 ^ k := by rw [Nat.add_mul]; omega
    rw [e] at s1
    have l1 : (a + b) * 2 ^ k ≤ (a + b) * m := Nat.mul_le_mul_left _ hm
    have l2 : a * 2 ^ k ≤ (a + b) * m := Nat.le_trans (Nat.mul_le_mul_right _ (by omega)) l1
    exact ⟨lt_pow s1 (by omega), lt_pow s2 (by omega)⟩
  rcases h with ⟨rfl, rfl, h6⟩ | ⟨rfl, rfl, h3⟩
  · exact key (a := 15) (b := 8) (m := 64) (by decide) (by decide) (two_pow_le (n := k) (m := 6) (by omega)) (by decide)
  · exact key (a := 110) (b := 135) (m := 8) (by decide) (by decide) (two_pow_le (n := k) (m := 3) (by omega)) (by decide)
theorem BV.bs {n k : Nat} {B V : Int} (h : BV n B V) (hk : k ≤ n) : (B ^ 2 ^ k).natAbs < 2 ^ 4000 := by
  have d1 : 1 ≤ 2 ^ k := Nat.one_le_two_pow
  rcases h with ⟨rfl, rfl, h6⟩ | ⟨rfl, rfl, h3⟩
  · refine lt_pow (pow_bits (k := 15) (by decide) d1) ?_
    have := two_pow_le (n := k) (m := 6) (by omega)
    omega
  · refine lt_pow (pow_bits (k := 110) (by decide) d1) ?_
    have := two_pow_le (n := k) (m := 3) (by omega)
    omega
theorem degQ {B V : Int} {d : Nat} {p : Fr} (h : DegF B V d p) : 0 < p.2 := by have := h.f.1; omega
/-- by what it tells: the number as a Rat, its bottom dividing -/
theorem low_dvd {a b c : Int} (h : 0 < b) (hd : b ∣ c) : (lowF a b).2 ∣ c := by
  refine Int.dvd_trans ?_ hd
  have d2 := gcdI_dvd2 a b
  obtain ⟨q, hq⟩ := d2
  have gp := gcdI_pos (a := a) (b := b) (by omega)
  show b / (gcdI a b : Int) ∣ b
  have e : b / (gcdI a b : Int) = q := by
    have := Int.mul_ediv_cancel_left q (show (gcdI a b : Int) ≠ 0 by omega)
    rw [← hq] at this
    exact this
  rw [e]
  exact ⟨_, by rw [hq, Int.mul_comm]⟩
theorem low_le {a b c : Int} (h : 0 < b) (hc : 16 * a ≤ c * b) : 16 * (lowF a b).1 ≤ c * (lowF a b).2 := by
  have d2 := gcdI_dvd2 a b
  have d1 := gcdI_dvd1 a b
  have gp := gcdI_pos (a := a) (b := b) (by omega)
  obtain ⟨q, hq⟩ := d2
  obtain ⟨p, hp⟩ := d1
  show 16 * (a / (gcdI a b : Int)) ≤ c * (b / (gcdI a b : Int))
  have g0 : (0 : Int) < (gcdI a b : Int) := by omega
  generalize (gcdI a b : Int) = g at *
  subst hp
  subst hq
  rw [Int.mul_ediv_cancel_left _ (by omega), Int.mul_ediv_cancel_left _ (by omega)]
  refine Int.le_of_mul_le_mul_left (a := g) ?_ g0
  have e1 : g * (16 * p) = 16 * (g * p) := by rw [← Int.mul_assoc, Int.mul_comm g 16, Int.mul_assoc]
  have e2 : g * (c * q) = c * (g * q) := by rw [← Int.mul_assoc, Int.mul_comm g c, Int.mul_assoc]
  rw [e1, e2]
  exact hc
theorem low_nn {a b : Int} (ha : 0 ≤ a) (h : 0 < b) : 0 ≤ (lowF a b).1 := Int.ediv_nonneg ha (by omega)
theorem deg_low {B V : Int} {d : Nat} {a b : Int} (h : 0 < b) (ha : 0 ≤ a) (hd : b ∣ B ^ d) (hv : 16 * a ≤ V ^ d * b) : DegF B V d (lowF a b) := ⟨lowF_isF h, low_nn ha h, low_dvd h hd, low_le h hv⟩
theorem pow_pos' {V : Int} (h : 1 ≤ V) (d : Nat) : 1 ≤ V ^ d := by
  have : 0 < V ^ d := Int.pow_pos (by omega)
  omega
theorem pow_mono' {V : Int} (h : 1 ≤ V) {d e : Nat} (hd : d ≤ e) : V ^ d ≤ V ^ e := by
  obtain ⟨k, rfl⟩ : ∃ k, e = d + k := ⟨e - d, by omega⟩
  rw [Int.pow_add]
  have a := pow_pos' h d
  have b := pow_pos' h k
  have := Int.mul_le_mul_of_nonneg_left b (show 0 ≤ V ^ d by omega)
  omega
theorem dvd_pow_add {B x y : Int} {d e : Nat} (h1 : x ∣ B ^ d) (h2 : y ∣ B ^ e) : x * y ∣ B ^ (d + e) := by
  rw [Int.pow_add]
  exact Int.mul_dvd_mul h1 h2
theorem DegF.mono {B V : Int} {d e : Nat} {p : Fr} (hV : 1 ≤ V) (h : DegF B V d p) (hd : d ≤ e) : DegF B V e p := ⟨h.f, h.n, Int.dvd_trans h.b (by
  obtain ⟨k, rfl⟩ : ∃ k, e = d + k := ⟨e - d, by omega⟩
  exact ⟨B ^ k, by rw [Int.pow_add]⟩), by
  have b0 := degQ h
  have := Int.mul_le_mul_of_nonneg_right (pow_mono' hV hd) (show 0 ≤ p.2 by omega)
  have := h.v
  omega⟩
/-- the sum of two -/
theorem deg_add {B V : Int} {d : Nat} {p q : Fr} (hV : 2 ≤ V) (d1 : 1 ≤ d) (hp : DegF B V d p) (hq : DegF B V d q) : DegF B V (d + d) (addF p q) := by
  have p0 := degQ hp
  have q0 := degQ hq
  have pn := hp.n
  have qn := hq.n
  have a0 := Int.mul_nonneg pn (show 0 ≤ q.2 by omega)
  have b0 := Int.mul_nonneg qn (show 0 ≤ p.2 by omega)
  refine deg_low (Int.mul_pos p0 q0) (by omega) (dvd_pow_add hp.b hq.b) ?_
  have v1 := Int.mul_le_mul_of_nonneg_right hp.v (show 0 ≤ q.2 by omega)
  have v2 := Int.mul_le_mul_of_nonneg_right hq.v (show 0 ≤ p.2 by omega)
  have W1 : 2 ≤ V ^ d := by
    have := pow_mono' (V := V) (by omega) d1
    rw [Int.pow_succ, Int.pow_zero, Int.one_mul] at this
    omega
  rw [Int.pow_add]
  generalize V ^ d = W at *
  have pq := Int.mul_pos p0 q0
  have h := Int.mul_le_mul_of_nonneg_right (Int.mul_le_mul_of_nonneg_left W1 (show 0 ≤ W by omega)) (show 0 ≤ p.2 * q.2 by omega)
  have e1 : 16 * p.1 * q.2 = 16 * (p.1 * q.2) := Int.mul_assoc ..
  have e2 : 16 * q.1 * p.2 = 16 * (q.1 * p.2) := Int.mul_assoc ..
  have e3 : W * p.2 * q.2 = W * (p.2 * q.2) := Int.mul_assoc ..
  have e4 : W * q.2 * p.2 = W * (p.2 * q.2) := by rw [Int.mul_assoc, Int.mul_comm q.2]
  have e5 : W * 2 * (p.2 * q.2) = W * (p.2 * q.2) + W * (p.2 * q.2) := by
    rw [Int.mul_comm W 2, Int.mul_assoc]
    omega
  omega
theorem low_leK {k a b c : Int} (h : 0 < b) (hc : k * a ≤ c * b) : k * (lowF a b).1 ≤ c * (lowF a b).2 := by
  have d2 := gcdI_dvd2 a b
  have d1 := gcdI_dvd1 a b
  have gp := gcdI_pos (a := a) (b := b) (by omega)
  obtain ⟨q, hq⟩ := d2
  obtain ⟨p, hp⟩ := d1
  show k * (a / (gcdI a b : Int)) ≤ c * (b / (gcdI a b : Int))
  have g0 : (0 : Int) < (gcdI a b : Int) := by omega
  generalize (gcdI a b : Int) = g at *
  subst hp
  subst hq
  rw [Int.mul_ediv_cancel_left _ (by omega), Int.mul_ediv_cancel_left _ (by omega)]
  refine Int.le_of_mul_le_mul_left (a := g) ?_ g0
  have e1 : g * (k * p) = k * (g * p) := Int.mul_left_comm ..
  have e2 : g * (c * q) = c * (g * q) := Int.mul_left_comm ..
  rw [e1, e2]
  exact hc
theorem add_dvd {p q : Fr} {C : Int} (hp : IsF p) (hq : IsF q) (hC : 0 < C) (h1 : p.2 ∣ C) (h2 : q.2 ∣ C) : (addF p q).2 ∣ C := by
  have p0 : 0 < p.2 := by have := hp.1; omega
  have q0 : 0 < q.2 := by have := hq.1; omega
  obtain ⟨u, hu⟩ := id h1
  obtain ⟨w, hw⟩ := id h2
  have e : addF p q = lowF (p.1 * u + q.1 * w) C := by
    refine toQ_inj (addF_isF hp hq) (lowF_isF hC) ?_
    rw [toQ_add p0 q0, toQ_low hC]
    unfold toQ
    rw [Rat.divInt_add_divInt _ _ (by omega) (by omega), Rat.divInt_eq_divInt_iff (Int.ne_of_gt (Int.mul_pos p0 q0)) (by omega)]
    have e1 : C * q.2 = p.2 * u * q.2 := by rw [hu]
    have e2 : C * p.2 = q.2 * w * p.2 := by rw [hw]
    grind
  rw [e]
  exact low_dvd hC (Int.dvd_refl C)
theorem deg_sop {B V : Int} {d : Nat} (hB : 1 ≤ B) (hV : 2 ≤ V) : ∀ {ps : List (Fr × Fr)} {s : Fr} {i : Nat}, (∀ p ∈ ps, DegF B V d p.1 ∧ DegF B V d p.2) → IsF s → 0 ≤ s.1 → s.2 ∣ B ^ (d + d) → 256 * s.1 ≤ ((i : Int) * V ^ (d + d)) * s.2 →
    IsF (ps.foldl (fun s p => addF s (mulF p.1 p.2)) s) ∧ 0 ≤ (ps.foldl (fun s p => addF s (mulF p.1 p.2)) s).1 ∧ (ps.foldl (fun s p => addF s (mulF p.1 p.2)) s).2 ∣ B ^ (d + d) ∧ 256 * (ps.foldl (fun s p => addF s (mulF p.1 p.2)) s).1 ≤ (((i + ps.length : Nat) : Int) * V ^ (d + d)) * (ps.foldl (fun s p => addF s (mulF p.1 p.2)) s).2
  | [], s, i, _, h1, h2, h3, h4 => ⟨h1, h2, h3, h4⟩
  | p :: ps, s, i, h, h1, h2, h3, h4 => by
    obtain ⟨g1, g2⟩ := h p List.mem_cons_self
    have C0 : 0 < B ^ (d + d) := Int.pow_pos (by omega)
    have b1 := degQ g1
    have b2 := degQ g2
    have s0 : 0 < s.2 := by have := h1.1; omega
    have bb := Int.mul_pos b1 b2
    have m1 : IsF (mulF p.1 p.2) := isF_mul g1.f g2.f
    have m0 : 0 < (mulF p.1 p.2).2 := by have := m1.1; omega
    have mn : 0 ≤ (mulF p.1 p.2).1 := low_nn (Int.mul_nonneg g1.n g2.n) bb
    have md : (mulF p.1 p.2).2 ∣ B ^ (d + d) := low_dvd bb (dvd_pow_add g1.b g2.b)
    have mv : 256 * (mulF p.1 p.2).1 ≤ V ^ (d + d) * (mulF p.1 p.2).2 := by
      refine low_leK bb ?_
      rw [Int.pow_add]
      have v1 := g1.v
      have v2 := g2.v
      have n1 := g1.n
      have n2 := g2.n
      generalize V ^ d = W at *
      have t1 := Int.mul_le_mul_of_nonneg_right v1 (show 0 ≤ 16 * p.2.1 by omega)
      have t2 : 0 ≤ W * p.1.2 := by omega
      have t3 := Int.mul_le_mul_of_nonneg_left v2 t2
      have e1 : 16 * p.1.1 * (16 * p.2.1) = 256 * (p.1.1 * p.2.1) := by grind
      have e2 : W * p.1.2 * (W * p.2.2) = W * W * (p.1.2 * p.2.2) := by grind
      omega
    refine deg_sop hB hV (ps := ps) (i := i + 1) (fun q hq => h q (List.mem_cons_of_mem _ hq)) (addF_isF h1 m1) ?_ (add_dvd h1 m1 C0 h3 md) ?_ |> fun r => ⟨r.1, r.2.1, r.2.2.1, ?_⟩
    · have a0 := Int.mul_nonneg h2 (show 0 ≤ (mulF p.1 p.2).2 by omega)
      have a1 := Int.mul_nonneg mn (show 0 ≤ s.2 by omega)
      exact low_nn (by omega) (Int.mul_pos s0 m0)
    · refine low_leK (Int.mul_pos s0 m0) ?_
      generalize mulF p.1 p.2 = m at *
      generalize V ^ (d + d) = W at *
      have t1 := Int.mul_le_mul_of_nonneg_right h4 (show 0 ≤ m.2 by omega)
      have t2 := Int.mul_le_mul_of_nonneg_right mv (show 0 ≤ s.2 by omega)
      have e1 : (((i + 1 : Nat) : Int) * W) * (s.2 * m.2) = (i : Int) * W * s.2 * m.2 + W * m.2 * s.2 := by
        rw [Int.natCast_add]
        grind
      have e2 : 256 * (s.1 * m.2 + m.1 * s.2) = 256 * s.1 * m.2 + 256 * m.1 * s.2 := by grind
      rw [e1, e2]
      omega
    · have := r.2.2.2
      rw [List.foldl_cons]
      have e : i + (p :: ps).length = i + 1 + ps.length := by rw [List.length_cons]; omega
      rw [e]
      exact this
/-- the sum of at most twelve products -/
theorem deg_sopF {B V : Int} {d : Nat} {ps : List (Fr × Fr)} (hB : 1 ≤ B) (hV : 2 ≤ V) (hl : ps.length ≤ 12) (h : ∀ p ∈ ps, DegF B V d p.1 ∧ DegF B V d p.2) : DegF B V (d + d) (sopF ps) := by
  obtain ⟨h1, h2, h3, h4⟩ := deg_sop hB hV (s := (0, 1)) (i := 0) h ⟨by decide, by decide⟩ (by decide) (Int.one_dvd _) (by simp)
  have h1 : IsF (sopF ps) := h1
  refine ⟨h1, h2, h3, ?_⟩
  have h4 : 256 * (sopF ps).1 ≤ (((0 + ps.length : Nat) : Int) * V ^ (d + d)) * (sopF ps).2 := h4
  have s0 : 0 < (sopF ps).2 := by have := h1.1; omega
  have W1 := pow_pos' (V := V) (by omega) (d + d)
  have t := Int.mul_le_mul_of_nonneg_right (Int.mul_le_mul_of_nonneg_right (show ((0 + ps.length : Nat) : Int) ≤ 16 by omega) (show 0 ≤ V ^ (d + d) by omega)) (show 0 ≤ (sopF ps).2 by omega)
  rw [Int.mul_assoc 16] at t
  omega
def CellQ (B V : Int) (c : D) (q : Fr) : Prop := (c = .non ∧ q = (0, 1)) ∨ (c.isNon = false ∧ 0 < q.1 ∧ Sz 134 q ∧ DegF B V 1 q)
def LineQ (B V : Int) (r : D) (l : List Fr) : Prop := ∃ cs, r = .lst cs ∧ l.length = cs.length ∧ ∀ (j : Nat) (c : D) (q : Fr), cs[j]? = some c → l[j]? = some q → CellQ B V c q
def GridQ (B V : Int) (g : D) (x : List (List Fr)) : Prop := ∃ rows, g = .lst rows ∧ x.length = rows.length ∧ ∀ (i : Nat) (r : D) (l : List Fr), rows[i]? = some r → x[i]? = some l → LineQ B V r l
def ValsQ (B V : Int) (gs : List D) (v : List (List (List Fr))) : Prop := v.length = gs.length ∧ ∀ (i : Nat) (g : D) (x : List (List Fr)), gs[i]? = some g → v[i]? = some x → GridQ B V g x
def rowV (l : List Fr) : D := .tup (l.map fr)
def gridV (x : List (List Fr)) : D := .tup (x.map rowV)
theorem map_get {α : Type} {f : α → D} {xs : List α} {i : Nat} {d : D} (h : (xs.map f)[i]? = some d) : ∃ x, xs[i]? = some x ∧ d = f x := by
  rw [List.getElem?_map] at h
  cases e : xs[i]? with
  | none => rw [e] at h; cases h
  | some x => rw [e] at h; cases h; exact ⟨x, rfl, rfl⟩
theorem GridQ.rows {B V : Int} {g : D} {x : List (List Fr)} (h : GridQ B V g x) : RowsV g (gridV x) := by
  obtain ⟨rows, rfl, hl, hr⟩ := h
  refine ⟨rows, _, rfl, rfl, by rw [List.length_map, hl], fun i r z h1 h2 => ?_⟩
  obtain ⟨l, hx, rfl⟩ := map_get h2
  obtain ⟨cs, rfl, hc, hq⟩ := hr i r l h1 hx
  refine ⟨cs, _, rfl, rfl, by rw [List.length_map, hc], fun j c z h3 h4 => ?_⟩
  obtain ⟨q, hy, rfl⟩ := map_get h4
  rcases hq j c q h3 hy with ⟨rfl, rfl⟩ | ⟨n, q0, sq, dq⟩
  · exact .inl ⟨rfl, rfl⟩
  · exact .inr ⟨n, q, rfl, dq.f, q0, sq⟩
theorem ValsQ.vals {B V : Int} {gs : List D} {v : List (List (List Fr))} (h : ValsQ B V gs v) : ValsP gs (v.map gridV) := ⟨by rw [List.length_map, h.1], fun i g y h1 h2 => by
  obtain ⟨x, hx, rfl⟩ := map_get h2
  exact (h.2 i g x h1 hx).rows⟩
/-- items told one by one, each beside its own -/
theorem all_pairs {α : Type} {f : α → D} {R : D → α → Prop} : ∀ {cs l : List D}, l.length = cs.length → (∀ (j : Nat) (c z : D), cs[j]? = some c → l[j]? = some z → ∃ a, z = f a ∧ R c a) → ∃ as : List α, l = as.map f ∧ as.length = cs.length ∧ ∀ (j : Nat) (c : D) (a : α), cs[j]? = some c → as[j]? = some a → R c a
  | [], [], _, _ => ⟨[], rfl, rfl, fun j c a h => by cases h⟩
  | [], _ :: _, h, _ => by cases h
  | _ :: _, [], h, _ => by cases h
  | c :: cs, z :: l, h, g => by
    obtain ⟨a, rfl, ra⟩ := g 0 c z rfl rfl
    obtain ⟨as, rfl, la, ha⟩ := all_pairs (f := f) (R := R) (cs := cs) (l := l) (by simpa using h) fun j x y h1 h2 => g (j + 1) x y (by simpa using h1) (by simpa using h2)
    refine ⟨a :: as, rfl, by simp [la], fun j x y h1 h2 => ?_⟩
    cases j with
    | zero =>
      cases h1
      cases h2
      exact ra
    | succ j => exact ha j x y (by simpa using h1) (by simpa using h2)
end PD
namespace PD
open PySem PySem.Spec PyProof.Rows L2
def celR : D → List D
  | .lst cs => cs.map cellU
  | _ => []
def celG : D → List (List D)
  | .lst rows => rows.map celR
  | _ => []
def wG (n : Nat) (g : D) : D × List (List D) := (.int n, celG g)
theorem celG_U {n : Nat} {g : D} (h : GridP n g) : (celG g).map D.tup = gridU g := by
  obtain ⟨rows, w, rfl, _, _, _, _, hr⟩ := h
  show (rows.map celR).map D.tup = rows.map rowU
  rw [List.map_map]
  refine List.map_congr_left fun r hm => ?_
  obtain ⟨cs, rfl, _⟩ := hr r hm
  rfl
theorem wG_gd {n : Nat} {g : D} (h : GridP n g) (C : Addr) : gridD C (wG n g) = gd C n (gridU g) := by
  show D.ins C _ [.int n, .tup ((celG g).map .tup)] = _
  rw [celG_U h]
theorem wGs_gd {n : Nat} {gs : List D} (h : ∀ e ∈ gs, GridP n e) (C : Addr) : (gs.map (wG n)).map (gridD C) = gs.map fun g => gd C n (gridU g) := by
  rw [List.map_map]
  exact List.map_congr_left fun g hg => wG_gd (h g hg) C
theorem wGs_ok {n : Nat} {gs xs : List D} {r : List Sh} (w : WorldP n gs xs r) : GsOk n (gs.map (wG n)) := ⟨by rw [List.length_map]; exact w.g1, by rw [List.length_map]; have := w.g3; omega, fun x hx => by
  obtain ⟨g, hg, rfl⟩ := List.mem_map.mp hx
  refine ⟨rfl, ?_⟩
  obtain ⟨m, gr, _⟩ := (w.g g hg).grd w.n1 w.n3
  refine ⟨m, ?_⟩
  show Grd n m ((celG g).map .tup)
  rw [celG_U (w.g g hg)]
  exact gr⟩
theorem stD_inj {k k' : Str} {l l' : List Int} (h : stD k l = stD k' l') : k = k' ∧ l = l' := by
  unfold stD at h
  simp only [D.tup.injEq, List.cons.injEq, D.str.injEq] at h
  refine ⟨h.1, ?_⟩
  have h2 := h.2
  clear h
  induction l generalizing l' with
  | nil => cases l' with
    | nil => rfl
    | cons _ _ => cases h2
  | cons a l ih => cases l' with
    | nil => cases h2
    | cons b l' =>
      simp only [List.map_cons, List.cons.injEq, D.int.injEq] at h2
      rw [h2.1, ih h2.2]
theorem world_sts {n : Nat} {gs xs : List D} {r : List Sh} (w : WorldP n gs xs r) : ∃ sts : List (Str × List Int), xs = sts.map (fun s => stD s.1 s.2) ∧ (∀ s ∈ sts, kindLen.lookup s.1 = some ((s.2.length : Int) + 1)) ∧ ∀ s ∈ sts, ∀ i ∈ s.2, 0 ≤ i ∧ i ≤ 1000 := by
  obtain ⟨sts, e, h⟩ := map_of (f := fun s : Str × List Int => stD s.1 s.2) (Q := fun s => kindLen.lookup s.1 = some ((s.2.length : Int) + 1) ∧ ∀ i ∈ s.2, 0 ≤ i ∧ i ≤ 1000) (l := xs) fun e he => by
    obtain ⟨k, l, rfl, h1, h2⟩ := w.x e he
    exact ⟨(k, l), rfl, h1, h2⟩
  exact ⟨sts, e, fun s hs => (h s hs).1, fun s hs => (h s hs).2⟩
theorem world_run' {n : Nat} {gs : List D} {sts : List (Str × List Int)} {r : List Sh} (w : WorldP n gs (sts.map fun s => stD s.1 s.2) r) (C : Addr) : runS ((gs.map (wG n)).map fun x => shG (gridD C x)) (sts.map fun s => stD s.1 s.2) 0 = .inl r := by
  have e : (gs.map (wG n)).map (fun x => shG (gridD C x)) = gs.map shL := by
    rw [List.map_map]
    refine List.map_congr_left fun g hg => ?_
    show shG (gridD C (wG n g)) = _
    rw [wG_gd (w.g g hg)]
    exact ((w.g g hg).sh C n).1
  rw [e]
  exact w.run
/-- a cell of a drawn grid: nought on both sides -/
theorem celG_at {n : Nat} {g : D} (h : GridP n g) {a b : Nat} {row : List D} {u : D} (h1 : (celG g)[a]? = some row) (h2 : row[b]? = some u) : ∃ (rows cs : List D) (c : D), g = .lst rows ∧ rows[a]? = some (.lst cs) ∧ cs[b]? = some c ∧ u = cellU c ∧ CellP n c := by
  obtain ⟨rows, w, rfl, _, _, _, _, hr⟩ := h
  have h1 : (rows.map celR)[a]? = some row := h1
  rw [List.getElem?_map] at h1
  cases e : rows[a]? with
  | none => rw [e] at h1; cases h1
  | some r0 =>
    rw [e] at h1
    obtain ⟨cs, rfl, _, hc⟩ := hr r0 (List.mem_of_getElem? e)
    cases h1
    have h2 : (cs.map cellU)[b]? = some u := h2
    rw [List.getElem?_map] at h2
    cases e2 : cs[b]? with
    | none => rw [e2] at h2; cases h2
    | some c =>
      rw [e2] at h2
      cases h2
      exact ⟨rows, cs, c, rfl, e, e2, rfl, hc c (List.mem_of_getElem? e2)⟩
/-- a tuple of tuples of what stands in cells -/
def tupX (M : GX) : D := .tup (M.map .tup)
def atX (M : GX) (i j : Nat) : D := (M.getD i []).getD j .non
theorem atX_get {M : GX} {r c i j : Nat} (d : DimX M r c) (hi : i < r) (hj : j < c) : M[i]? = some (M.getD i []) ∧ (M.getD i [])[j]? = some (atX M i j) ∧ M.getD i [] ∈ M ∧ atX M i j ∈ M.getD i [] := by
  have h1 : i < M.length := by rw [d.1]; exact hi
  have h2 : j < (M.getD i []).length := by rw [d.row hi]; exact hj
  have e1 : M[i]? = some (M.getD i []) := by rw [List.getD_eq_getElem?_getD, List.getElem?_eq_getElem h1]; rfl
  have e2 := listX_at h2
  exact ⟨e1, e2, List.mem_of_getElem? e1, List.mem_of_getElem? e2⟩
theorem tupX_at {M : GX} {r c i : Nat} (d : DimX M r c) (hi : i < r) : (M.map D.tup)[i]? = some (.tup (M.getD i [])) := by
  have h1 : i < M.length := by rw [d.1]; exact hi
  rw [List.getElem?_map, List.getD_eq_getElem?_getD, List.getElem?_eq_getElem h1]
  rfl
/-- the cell of an elder grid that a moving step tells at (i, j) -/
def srcI (k : Str) (l : List Int) (shs : List Sh) (i j : Int) : Int × Int × Int :=
  if k = "turned" then (l.getD 0 0, j, i)
  else if k = "piece" then (l.getD 0 0, l.getD 1 0 + i, l.getD 2 0 + j)
  else if k = "beside" then if j < (shAt shs (l.getD 0 0)).2 then (l.getD 0 0, i, j) else (l.getD 1 0, i, j - (shAt shs (l.getD 0 0)).2)
  else if i < (shAt shs (l.getD 0 0)).1 then (l.getD 0 0, i, j) else (l.getD 1 0, i - (shAt shs (l.getD 0 0)).1, j)
def trI (x : Int × Int × Int) : D := .tup [.int x.1, .int x.2.1, .int x.2.2]
/-- the grids at hand and their shapes -/
def ShX (G : Nat → Option GX) (shs : List Sh) : Prop := ∀ a X, G a = some X → ∃ p, shs[a]? = some p ∧ DimShX X p
theorem shAt_of {shs : List Sh} {a : Nat} {p : Sh} (h : shs[a]? = some p) : shAt shs (a : Int) = p := by
  show shs.getD (a : Int).toNat (0, 0) = p
  rw [Int.toNat_natCast, List.getD_eq_getElem?_getD, h]
  rfl
theorem ShX.at {G : Nat → Option GX} {shs : List Sh} (h : ShX G shs) {a r c : Nat} {X : GX} (g : G a = some X) (d : DimX X r c) : shAt shs (a : Int) = ((r : Int), (c : Int)) ∧ a < shs.length ∧ 1 ≤ r ∧ 1 ≤ c ∧ r ≤ 12 ∧ c ≤ 12 := by
  obtain ⟨p, hp, r', c', rfl, d', r1, c1, r12, c12⟩ := h a X g
  have hr : r' = r := d'.1.symm.trans d.1
  subst hr
  obtain ⟨h1, h2⟩ := d'.same d r1
  subst h2
  exact ⟨shAt_of hp, (List.getElem?_eq_some_iff.mp hp).1, r1, c1, r12, c12⟩
theorem mkx_cell {A : Al} {G : Nat → Option GX} {shs : List Sh} {k : Str} {l : List Int} {M : GX} (hS : ShX G shs) (h : MkX A G k l M) (n1 : k ≠ "plus") (n2 : k ≠ "times") (n3 : k ≠ "star") {r c i j : Nat} (d : DimX M r c) (hi : i < r) (hj : j < c) :
    0 ≤ l.getD 0 0 ∧ l.getD 0 0 < shs.length ∧ ∃ (x y z r' c' : Nat) (X : GX), srcI k l shs (i : Int) (j : Int) = ((x : Int), (y : Int), (z : Int)) ∧ G x = some X ∧ DimX X r' c' ∧ y < r' ∧ z < c' ∧ atX M i j = atX X y z := by
  have hm : i < M.length := by rw [d.1]; exact hi
  have hrow : (M.getD i []).length = c := d.row hi
  cases h with
  | plus => exact absurd rfl n1
  | times => exact absurd rfl n2
  | star => exact absurd rfl n3
  | @turned a r1 c1 X g d1 =>
    obtain ⟨_, al, _⟩ := hS.at g d1
    rw [colsX_len] at hm
    have e : (colsX X c1).getD i [] = X.map fun row => row.getD i .non := by
      rw [List.getD_eq_getElem?_getD]
      unfold colsX
      rw [List.getElem?_map, List.getElem?_range hm]
      rfl
    rw [e, List.length_map, d1.1] at hrow
    refine ⟨Int.natCast_nonneg a, by show (a : Int) < _; omega, a, j, i, r1, c1, X, rfl, g, d1, by omega, hm, ?_⟩
    unfold atX
    rw [e, List.getD_eq_getElem?_getD, List.getElem?_map, List.getD_eq_getElem?_getD (l := X), List.getElem?_eq_getElem (by rw [d1.1]; omega)]
    rfl
  | @beside a b r1 m1 c1 X Y g g2 d1 d2 =>
    obtain ⟨s1, al, _⟩ := hS.at g d1
    have hx : i < X.length := by rw [List.length_zipWith] at hm; omega
    have hy : i < Y.length := by rw [List.length_zipWith] at hm; omega
    have e : (List.zipWith (· ++ ·) X Y).getD i [] = X.getD i [] ++ Y.getD i [] := by
      rw [List.getD_eq_getElem?_getD, List.getElem?_zipWith, List.getD_eq_getElem?_getD, List.getD_eq_getElem?_getD, List.getElem?_eq_getElem hx, List.getElem?_eq_getElem hy]
      rfl
    have lx : (X.getD i []).length = m1 := d1.row (by rw [← d1.1]; exact hx)
    have ly : (Y.getD i []).length = c1 := d2.row (by rw [← d2.1]; exact hy)
    rw [e, List.length_append, lx, ly] at hrow
    have l0 : ([(a : Int), (b : Int)]).getD 0 0 = (a : Int) := rfl
    have l1 : ([(a : Int), (b : Int)]).getD 1 0 = (b : Int) := rfl
    refine ⟨Int.natCast_nonneg a, by show (a : Int) < _; omega, ?_⟩
    unfold srcI
    rw [if_neg (by decide), if_neg (by decide), if_pos rfl, l0, l1, s1]
    by_cases q : j < m1
    · refine ⟨a, i, j, r1, m1, X, by rw [if_pos (by show (j : Int) < (m1 : Int); omega)], g, d1, by rw [← d1.1]; exact hx, q, ?_⟩
      unfold atX
      rw [e, List.getD_eq_getElem?_getD, List.getElem?_append_left (by omega), ← List.getD_eq_getElem?_getD]
    · refine ⟨b, i, j - m1, r1, c1, Y, by rw [if_neg (by show ¬ (j : Int) < (m1 : Int); omega)]; simp only [Prod.mk.injEq, true_and]; omega, g2, d2, by rw [← d2.1]; exact hy, by omega, ?_⟩
      unfold atX
      rw [e, List.getD_eq_getElem?_getD, List.getElem?_append_right (by omega), lx, ← List.getD_eq_getElem?_getD]
  | @above a b r1 m1 c1 X Y g g2 d1 d2 =>
    obtain ⟨s1, al, _⟩ := hS.at g d1
    rw [List.length_append, d1.1, d2.1] at hm
    have l0 : ([(a : Int), (b : Int)]).getD 0 0 = (a : Int) := rfl
    have l1 : ([(a : Int), (b : Int)]).getD 1 0 = (b : Int) := rfl
    refine ⟨Int.natCast_nonneg a, by show (a : Int) < _; omega, ?_⟩
    unfold srcI
    rw [if_neg (by decide), if_neg (by decide), if_neg (by decide), l0, l1, s1]
    by_cases q : i < r1
    · have e : (X ++ Y).getD i [] = X.getD i [] := by
        rw [List.getD_eq_getElem?_getD, List.getElem?_append_left (by rw [d1.1]; exact q), ← List.getD_eq_getElem?_getD]
      rw [e, d1.row q] at hrow
      refine ⟨a, i, j, r1, c1, X, by rw [if_pos (by show (i : Int) < (r1 : Int); omega)], g, d1, q, by omega, ?_⟩
      unfold atX
      rw [e]
    · have e : (X ++ Y).getD i [] = Y.getD (i - r1) [] := by
        rw [List.getD_eq_getElem?_getD, List.getElem?_append_right (by rw [d1.1]; omega), d1.1, ← List.getD_eq_getElem?_getD]
      rw [e, d2.row (by omega)] at hrow
      refine ⟨b, i - r1, j, m1, c1, Y, by rw [if_neg (by show ¬ (i : Int) < (r1 : Int); omega)]; simp only [Prod.mk.injEq, true_and, and_true]; omega, g2, d2, by omega, by omega, ?_⟩
      unfold atX
      rw [e]
  | @piece a u v h w r1 c1 X g d1 hr hc h1 w1 =>
    obtain ⟨s1, al, _⟩ := hS.at g d1
    have dp := d1.piece hr hc
    have ih : i < h := by rw [← dp.1]; exact hm
    have xi : u + i < X.length := by rw [d1.1]; omega
    have e : (((X.drop u).take h).map fun row => (row.drop v).take w).getD i [] = ((X.getD (u + i) []).drop v).take w := by
      rw [List.getD_eq_getElem?_getD, List.getElem?_map, List.getElem?_take, if_pos ih, List.getElem?_drop, List.getD_eq_getElem?_getD, List.getElem?_eq_getElem xi]
      rfl
    have jw : j < w := by rw [dp.row ih] at hrow; omega
    refine ⟨Int.natCast_nonneg a, by show (a : Int) < _; omega, a, u + i, v + j, r1, c1, X, ?_, g, d1, by omega, by omega, ?_⟩
    · unfold srcI
      rw [if_neg (by decide), if_pos rfl]
      show ((a : Int), (u : Int) + (i : Int), (v : Int) + (j : Int)) = _
      simp
    · unfold atX
      rw [e, List.getD_eq_getElem?_getD, List.getElem?_take, if_pos jw, List.getElem?_drop, ← List.getD_eq_getElem?_getD]
theorem gd_tup3 {W : Wd} {δ : DS} {g1 g2 g3 : TG} {x y z : D} {j1 j2 j3 : List Nat} {Nx : DS → Prop} (h : GD W g1 x δ j1 fun δ1 => GD W g2 y δ1 j2 fun δ2 => GD W g3 z δ2 j3 Nx) :
    GD W (gTup W.K 3 (gCons g1 (gCons g2 (gCons g3 gNil)))) (.tup [x, y, z]) δ (j1 ++ j2 ++ j3) Nx := fun M σ H v p r Q q => by
  cases r with
  | @tup a vs ds hs hr =>
    obtain _ | ⟨r1, _ | ⟨r2, _ | ⟨r3, _ | _⟩⟩⟩ := hr
    refine ⟨a, _, rfl, hs, rfl, _, _, rfl, h M σ H _ p r1 _ fun σ1 δ1 p1 h1 w1 => ⟨_, _, rfl, h1 M σ1 H _ p1 r2 _ fun σ2 δ2 p2 h2 w2 => ⟨_, _, rfl, h2 M σ2 H _ p2 r3 _ fun σ3 δ3 p3 h3 w3 => ⟨rfl, q σ3 δ3 p3 h3 fun vs hv => ?_⟩⟩⟩⟩
    have m : ∀ j, (j ∈ j1 ∨ j ∈ j2 ∨ j ∈ j3) → j ∈ vs := fun j hj => hv j (by
      simp only [List.mem_append]
      rcases hj with h | h | h
      · exact .inl (.inl h)
      · exact .inl (.inr h)
      · exact .inr h)
    rw [w3 vs fun j hj => m j (.inr (.inr hj)), w2 vs fun j hj => m j (.inr (.inl hj)), w1 vs fun j hj => m j (.inl hj)]
end PD
set_option Elab.async false
set_option linter.all false
set_option maxRecDepth 100000
set_option maxHeartbeats 4000000
namespace PDSR
end PDSR
namespace WarM
end WarM
namespace Lk20
open PySem PySem.Spec PyProof.Rows L2 PD PDX PDI PDT PDZ PDSR WarM
/-- the next steps of a reading, by its form -/
local macro_rules | `(tactic| walk_at "pd1") => `(tactic| with_reducible (first | refine sx_drop ?_ | refine sx_ret ?_ | refine sd_seq ?_ | refine sd_next ?_ | refine sd_ret ?_ | refine sd_asg ?_ | refine sd_if ?_ | refine sd_drop ?_ | refine sd_par ?_ | refine sd_retN ?_ | refine ev_op ?_ | refine ev_int ?_ | refine ev_bl ?_ | refine ev_non ?_ | refine ev_str ?_ | refine ev_ty ?_ | refine ev_obj ?_ | refine ev_un ?_ | refine ev_cb ?_ | refine ev_call ?_ | refine ev_tup ?_ | refine ev_lst ?_ | refine ev_dnew ?_ | refine ev_disp1 ?_ | refine ev_make ?_ | refine ev_sl ?_ | refine ev_slL ?_ | refine eo_none ?_ | refine eo_some ?_ | refine ev_andV ?_ | refine ev_orV ?_ | refine ev_notV ?_ | refine ev_if ?_ | refine ev_chain ?_ | refine et_B ?_ | refine et_test ?_ | refine et_and ?_ | refine et_or ?_ | refine et_not ?_ | refine ea_nil ?_ | refine ea_cons ?_ | refine rd_plusI ?_ | refine rd_eqI ?_ | refine rd_neI ?_ | refine rd_eqSh ?_ | refine rd_neS (by first | assumption | decide +kernel) (by decide +kernel) ?_ | refine rd_eqS (by first | assumption | decide +kernel) (by decide +kernel) ?_ | refine rc_max2 ?_ | refine rc_min2 ?_ | refine rc_gcd ?_ | refine rc_abs ?_ | refine rc_int1 ?_ | refine rc_tupL ?_ | refine rc_lenT ?_ | refine rc_lenL ?_))
local macro_rules | `(tactic| walk_at "pd2") => `(tactic| first | refine ev_var rfl ?_ | refine rd_I0 ?_ | refine rd_I0b ?_ | refine ru_I ?_ | refine rd_isN ?_ | refine rd_notN ?_ | refine rd_ixT (j := 0) rfl rfl ?_ | refine rd_ixT (j := 1) rfl rfl ?_ | refine rd_ixL (j := 0) rfl rfl ?_ | refine rd_ixL (j := 1) rfl rfl ?_ | refine rd_I ?_ ?_)
local macro_rules | `(tactic| walk_at "pd3") => `(tactic| first | refine exb_t rfl ?_ | refine exb_f rfl ?_ | refine exo_f rfl ?_ | refine exo_t rfl ?_ | refine bt rfl ?_ | refine bf rfl ?_ | refine bof rfl ?_ | refine bot rfl ?_ | (with_reducible refine exb ?_) | refine And.intro (Nat.le_of_ble_eq_true rfl) ?_)
local macro_rules | `(tactic| walk_at "pd4") => `(tactic| first | refine rc_isiIJ (by first | assumption | rfl) ?_ | refine rc_isiBJ (by first | assumption | rfl) ?_ | refine rc_isiTJ (by first | assumption | rfl) ?_ | refine rc_isiSJ (by first | assumption | rfl) ?_ | refine rc_isiI (by first | assumption | rfl) ?_ | refine rc_isiB (by first | assumption | rfl) ?_ | refine rc_isiT (by first | assumption | rfl) ?_)
local macro_rules | `(tactic| walk_at "pd5") => `(tactic| with_reducible (refine rd_I (C := CPow) (cpow_ok (by decide)) ?_))
local macro_rules | `(tactic| walk_at "pd") => `(tactic| repeat' (first | walk_at "pd1" | walk_at "pd5" | walk_at "pd4" | walk_at "pd2" | walk_at "pd3"))
local macro_rules | `(tactic| walk_at "pdE") => `(tactic| repeat' (first | walk_at "pd5" | walk_at "pd4" | walk_at "pd2" | walk_at "pd3" | with_reducible (first | refine ev_op ?_ | refine ev_int ?_ | refine ev_bl ?_ | refine ev_tup ?_ | refine ea_nil ?_ | refine ea_cons ?_)))
def topS (i : Nat) : Stmt := PySem.Challenge.pw_unitgrids_k20_whole_outcomes_step_by_ste.main.body.getD i (.Pass ⟨0, 0, 0, 0⟩)
abbrev s__law_start : Stmt := topS 64
theorem sc__law_start : FnScope ["script", "cells", "cell"] ["script"] (defScope s__law_start) := ⟨rfl, rfl, rfl, by decide +kernel, rfl, by decide +kernel, by decide +kernel⟩
abbrev s__law_pick : Stmt := topS 65
theorem sc__law_pick : FnScope ["state", "many", "cells", "at", "cell", "number"] ["state", "many"] (defScope s__law_pick) := ⟨rfl, rfl, rfl, by decide +kernel, rfl, by decide +kernel, by decide +kernel⟩
abbrev s__law_vector : Stmt := topS 68
theorem sc__law_vector : FnScope ["state", "bottoms", "most", "bottom"] ["state", "bottoms", "most"] (defScope s__law_vector) := ⟨rfl, rfl, rfl, by decide +kernel, rfl, by decide +kernel, by decide +kernel⟩
abbrev s__law_cell : Stmt := topS 69
theorem sc__law_cell : FnScope ["state", "bottoms", "heights", "shift", "i", "j", "choice", "base", "bottom"] ["state", "bottoms", "heights", "shift", "i", "j"] (defScope s__law_cell) := ⟨rfl, rfl, rfl, by decide +kernel, rfl, by decide +kernel, by decide +kernel⟩
abbrev s__law_row : Stmt := topS 70
theorem sc__law_row : FnScope ["state", "bottoms", "heights", "shift", "i", "columns", "j"] ["state", "bottoms", "heights", "shift", "i", "columns"] (defScope s__law_row) := ⟨rfl, rfl, rfl, by decide +kernel, rfl, by decide +kernel, by decide +kernel⟩
abbrev s__law_grids : Stmt := topS 71
theorem sc__law_grids : FnScope ["state", "bottoms", "heights", "size", "grids", "at", "shift", "place", "rows", "columns", "i"] ["state", "bottoms"] (defScope s__law_grids) := ⟨rfl, rfl, rfl, by decide +kernel, rfl, by decide +kernel, by decide +kernel⟩
abbrev s__law_shape : Stmt := topS 72
theorem sc__law_shape : FnScope ["step", "shapes", "other", "rows", "columns"] ["step", "shapes"] (defScope s__law_shape) := ⟨rfl, rfl, rfl, by decide +kernel, rfl, by decide +kernel, by decide +kernel⟩
abbrev s__law_step : Stmt := topS 73
theorem sc__law_step : FnScope ["state", "word", "shapes", "at", "found", "one", "rows", "columns", "other", "i", "j", "step", "made"] ["state", "word", "shapes"] (defScope s__law_step) := ⟨rfl, rfl, rfl, by decide +kernel, rfl, by decide +kernel, by decide +kernel⟩
abbrev s__law_world : Stmt := topS 74
theorem sc__law_world : FnScope ["state", "words", "bottoms", "grids", "shapes", "steps", "word", "step", "base", "rows"] ["state", "words"] (defScope s__law_world) := ⟨rfl, rfl, rfl, by decide +kernel, rfl, by decide +kernel, by decide +kernel⟩
abbrev s__law_lowest : Stmt := topS 66
theorem sc__law_lowest : FnScope ["top", "bottom", "one", "other"] ["top", "bottom"] (defScope s__law_lowest) := ⟨rfl, rfl, rfl, by decide +kernel, rfl, by decide +kernel, by decide +kernel⟩
abbrev s__law_number : Stmt := topS 79
theorem sc__law_number : FnScope ["state", "is_great", "top"] ["state", "is_great"] (defScope s__law_number) := ⟨rfl, rfl, rfl, by decide +kernel, rfl, by decide +kernel, by decide +kernel⟩
abbrev s__law_numbers : Stmt := topS 80
theorem sc__law_numbers : FnScope ["state", "rows", "is_great", "row", "cell"] ["state", "rows", "is_great"] (defScope s__law_numbers) := ⟨rfl, rfl, rfl, by decide +kernel, rfl, by decide +kernel, by decide +kernel⟩
abbrev s__law_values : Stmt := topS 81
theorem sc__law_values : FnScope ["state", "world", "is_great", "rows"] ["state", "world"] (defScope s__law_values) := ⟨rfl, rfl, rfl, by decide +kernel, rfl, by decide +kernel, by decide +kernel⟩
abbrev s__law_unit : Stmt := topS 67
theorem sc__law_unit : FnScope ["cell", "part"] ["cell"] (defScope s__law_unit) := ⟨rfl, rfl, rfl, by decide +kernel, rfl, by decide +kernel, by decide +kernel⟩
abbrev s__has_grid_length : Stmt := topS 42
theorem sc__has_grid_length : FnScope ["thing"] ["thing"] (defScope s__has_grid_length) := ⟨rfl, rfl, rfl, by decide +kernel, rfl, by decide +kernel, by decide +kernel⟩
abbrev s_is_whole : Stmt := topS 2
theorem sc_is_whole : FnScope ["thing"] ["thing"] (defScope s_is_whole) := ⟨rfl, rfl, rfl, by decide +kernel, rfl, by decide +kernel, by decide +kernel⟩
abbrev s_is_pair : Stmt := topS 4
theorem sc_is_pair : FnScope ["thing"] ["thing"] (defScope s_is_pair) := ⟨rfl, rfl, rfl, by decide +kernel, rfl, by decide +kernel, by decide +kernel⟩
abbrev s_is_fraction : Stmt := topS 5
theorem sc_is_fraction : FnScope ["thing", "top", "bottom"] ["thing"] (defScope s_is_fraction) := ⟨rfl, rfl, rfl, by decide +kernel, rfl, by decide +kernel, by decide +kernel⟩
abbrev s_is_any_unit : Stmt := topS 34
theorem sc_is_any_unit : FnScope ["thing", "exponent"] ["thing"] (defScope s_is_any_unit) := ⟨rfl, rfl, rfl, by decide +kernel, rfl, by decide +kernel, by decide +kernel⟩
abbrev s_is_unit : Stmt := topS 35
theorem sc_is_unit : FnScope ["bases", "thing"] ["bases", "thing"] (defScope s_is_unit) := ⟨rfl, rfl, rfl, by decide +kernel, rfl, by decide +kernel, by decide +kernel⟩
abbrev s_is_cell : Stmt := topS 41
theorem sc_is_cell : FnScope ["bases", "thing", "top", "below"] ["bases", "thing"] (defScope s_is_cell) := ⟨rfl, rfl, rfl, by decide +kernel, rfl, by decide +kernel, by decide +kernel⟩
abbrev s__wrong_part : Stmt := topS 43
theorem sc__wrong_part : FnScope ["bases", "rows", "i", "row", "j", "thing"] ["bases", "rows"] (defScope s__wrong_part) := ⟨rfl, rfl, rfl, by decide +kernel, rfl, by decide +kernel, by decide +kernel⟩
abbrev s_BadGrid___init__ : Stmt := mthS (topS 28) 0
theorem sc_BadGrid___init__ : FnScope ["self", "part"] ["self", "part"] (defScope s_BadGrid___init__) := ⟨rfl, rfl, rfl, by decide +kernel, rfl, by decide +kernel, by decide +kernel⟩
abbrev s_Grid___init__ : Stmt := mthS (topS 40) 0
theorem sc_Grid___init__ : FnScope ["self", "bases", "rows", "part"] ["self", "bases", "rows"] (defScope s_Grid___init__) := ⟨rfl, rfl, rfl, by decide +kernel, rfl, by decide +kernel, by decide +kernel⟩
abbrev s__law_grid : Stmt := topS 76
theorem sc__law_grid : FnScope ["bases", "rows", "row", "cell"] ["bases", "rows"] (defScope s__law_grid) := ⟨rfl, rfl, rfl, by decide +kernel, rfl, by decide +kernel, by decide +kernel⟩
abbrev s__shape_of_two : Stmt := topS 20
theorem sc__shape_of_two : FnScope ["kind", "one", "other"] ["kind", "one", "other"] (defScope s__shape_of_two) := ⟨rfl, rfl, rfl, by decide +kernel, rfl, by decide +kernel, by decide +kernel⟩
abbrev s__piece_shape : Stmt := topS 19
theorem sc__piece_shape : FnScope ["step", "rows", "columns", "first_row", "first_column", "high", "wide"] ["step", "rows", "columns"] (defScope s__piece_shape) := ⟨rfl, rfl, rfl, by decide +kernel, rfl, by decide +kernel, by decide +kernel⟩
abbrev s__fitting_shape : Stmt := topS 18
theorem sc__fitting_shape : FnScope ["step", "shapes", "rows", "columns"] ["step", "shapes"] (defScope s__fitting_shape) := ⟨rfl, rfl, rfl, by decide +kernel, rfl, by decide +kernel, by decide +kernel⟩
abbrev s_is_index : Stmt := topS 3
theorem sc_is_index : FnScope ["thing", "many"] ["thing", "many"] (defScope s_is_index) := ⟨rfl, rfl, rfl, by decide +kernel, rfl, by decide +kernel, by decide +kernel⟩
abbrev s_sources : Stmt := topS 15
theorem sc_sources : FnScope ["step"] ["step"] (defScope s_sources) := ⟨rfl, rfl, rfl, by decide +kernel, rfl, by decide +kernel, by decide +kernel⟩
abbrev s_is_step : Stmt := topS 16
theorem sc_is_step : FnScope ["thing", "many", "number"] ["thing", "many"] (defScope s_is_step) := ⟨rfl, rfl, rfl, by decide +kernel, rfl, by decide +kernel, by decide +kernel⟩
abbrev s_made_shape : Stmt := topS 17
theorem sc_made_shape : FnScope ["shapes", "thing", "shape", "number"] ["shapes", "thing"] (defScope s_made_shape) := ⟨rfl, rfl, rfl, by decide +kernel, rfl, by decide +kernel, by decide +kernel⟩
abbrev s_BadScript___init__ : Stmt := mthS (topS 29) 0
theorem sc_BadScript___init__ : FnScope ["self", "part"] ["self", "part"] (defScope s_BadScript___init__) := ⟨rfl, rfl, rfl, by decide +kernel, rfl, by decide +kernel, by decide +kernel⟩
abbrev s__shapes_made : Stmt := topS 55
theorem sc__shapes_made : FnScope ["shapes", "steps", "found", "index", "step", "made"] ["shapes", "steps"] (defScope s__shapes_made) := ⟨rfl, rfl, rfl, by decide +kernel, rfl, by decide +kernel, by decide +kernel⟩
abbrev s__are_grids : Stmt := topS 53
theorem sc__are_grids : FnScope ["thing", "grid"] ["thing"] (defScope s__are_grids) := ⟨rfl, rfl, rfl, by decide +kernel, rfl, by decide +kernel, by decide +kernel⟩
abbrev s__shape_put_in : Stmt := topS 54
theorem sc__shape_put_in : FnScope ["grid"] ["grid"] (defScope s__shape_put_in) := ⟨rfl, rfl, rfl, by decide +kernel, rfl, by decide +kernel, by decide +kernel⟩
abbrev s_Script___init__ : Stmt := mthS (topS 52) 0
theorem sc_Script___init__ : FnScope ["self", "grids", "steps", "grid"] ["self", "grids", "steps"] (defScope s_Script___init__) := ⟨rfl, rfl, rfl, by decide +kernel, rfl, by decide +kernel, by decide +kernel⟩
abbrev s__law_script : Stmt := topS 77
theorem sc__law_script : FnScope ["world", "rows"] ["world"] (defScope s__law_script) := ⟨rfl, rfl, rfl, by decide +kernel, rfl, by decide +kernel, by decide +kernel⟩
abbrev s__law_words : Stmt := topS 75
theorem sc__law_words : FnScope ["state", "many", "menu", "time"] ["state", "many"] (defScope s__law_words) := ⟨rfl, rfl, rfl, by decide +kernel, rfl, by decide +kernel, by decide +kernel⟩
abbrev s_many_grids : Stmt := topS 56
theorem sc_many_grids : FnScope ["script"] ["script"] (defScope s_many_grids) := ⟨rfl, rfl, rfl, by decide +kernel, rfl, by decide +kernel, by decide +kernel⟩
abbrev s_GridError___init__ : Stmt := mthS (topS 27) 0
theorem sc_GridError___init__ : FnScope ["self"] ["self"] (defScope s_GridError___init__) := ⟨rfl, rfl, rfl, by decide +kernel, rfl, by decide +kernel, by decide +kernel⟩
abbrev s_check_grid : Stmt := topS 57
theorem sc_check_grid : FnScope ["script", "at"] ["script", "at"] (defScope s_check_grid) := ⟨rfl, rfl, rfl, by decide +kernel, rfl, by decide +kernel, by decide +kernel⟩
abbrev s__beside_cells : Stmt := topS 45
theorem sc__beside_cells : FnScope ["grid", "numbers", "pair", "row", "line"] ["grid", "numbers"] (defScope s__beside_cells) := ⟨rfl, rfl, rfl, by decide +kernel, rfl, by decide +kernel, by decide +kernel⟩
abbrev s__has_shape : Stmt := topS 44
theorem sc__has_shape : FnScope ["grid", "thing", "row"] ["grid", "thing"] (defScope s__has_shape) := ⟨rfl, rfl, rfl, by decide +kernel, rfl, by decide +kernel, by decide +kernel⟩
abbrev s__is_number_for : Stmt := topS 46
theorem sc__is_number_for : FnScope ["unit", "thing"] ["unit", "thing"] (defScope s__is_number_for) := ⟨rfl, rfl, rfl, by decide +kernel, rfl, by decide +kernel, by decide +kernel⟩
abbrev s_are_numbers : Stmt := topS 47
theorem sc_are_numbers : FnScope ["grid", "thing", "unit", "number"] ["grid", "thing"] (defScope s_are_numbers) := ⟨rfl, rfl, rfl, by decide +kernel, rfl, by decide +kernel, by decide +kernel⟩
abbrev s_is_above_nought : Stmt := topS 6
theorem sc_is_above_nought : FnScope ["thing"] ["thing"] (defScope s_is_above_nought) := ⟨rfl, rfl, rfl, by decide +kernel, rfl, by decide +kernel, by decide +kernel⟩
abbrev s_are_values : Stmt := topS 48
theorem sc_are_values : FnScope ["grid", "thing", "pairs", "unit", "number"] ["grid", "thing"] (defScope s_are_values) := ⟨rfl, rfl, rfl, by decide +kernel, rfl, by decide +kernel, by decide +kernel⟩
abbrev s_are_all_values : Stmt := topS 61
theorem sc_are_all_values : FnScope ["script", "thing", "grid", "part"] ["script", "thing"] (defScope s_are_all_values) := ⟨rfl, rfl, rfl, by decide +kernel, rfl, by decide +kernel, by decide +kernel⟩
abbrev s_Outcomes___init__ : Stmt := mthS (topS 60) 0
theorem sc_Outcomes___init__ : FnScope ["self", "numbers"] ["self", "numbers"] (defScope s_Outcomes___init__) := ⟨rfl, rfl, rfl, by decide +kernel, rfl, by decide +kernel, by decide +kernel⟩
abbrev s_leading : Stmt := topS 24
theorem sc_leading : FnScope ["script", "at", "many", "leads", "number", "source"] ["script", "at"] (defScope s_leading) := ⟨rfl, rfl, rfl, by decide +kernel, rfl, by decide +kernel, by decide +kernel⟩
abbrev s_turned : Stmt := topS 21
theorem sc_turned : FnScope ["rows", "column"] ["rows"] (defScope s_turned) := ⟨rfl, rfl, rfl, by decide +kernel, rfl, by decide +kernel, by decide +kernel⟩
abbrev s_moved : Stmt := topS 22
theorem sc_moved : FnScope ["step", "grids", "one", "first_row", "first_column", "high", "wide", "row", "left", "right"] ["step", "grids"] (defScope s_moved) := ⟨rfl, rfl, rfl, by decide +kernel, rfl, by decide +kernel, by decide +kernel⟩
abbrev s_lowest : Stmt := topS 7
theorem sc_lowest : FnScope ["top", "bottom", "common"] ["top", "bottom"] (defScope s_lowest) := ⟨rfl, rfl, rfl, by decide +kernel, rfl, by decide +kernel, by decide +kernel⟩
abbrev s_sum_of_products : Stmt := topS 10
theorem sc_sum_of_products : FnScope ["pairs", "top", "bottom", "one", "other", "below", "common"] ["pairs"] (defScope s_sum_of_products) := ⟨rfl, rfl, rfl, by decide +kernel, rfl, by decide +kernel, by decide +kernel⟩
abbrev s_Outcomes_inner : Stmt := mthS (topS 60) 4
theorem sc_Outcomes_inner : FnScope ["self", "row", "column", "pairs", "pair"] ["self", "row", "column"] (defScope s_Outcomes_inner) := ⟨rfl, rfl, rfl, by decide +kernel, rfl, by decide +kernel, by decide +kernel⟩
abbrev s_Cells_products : Stmt := mthS (topS 25) 10
theorem sc_Cells_products : FnScope ["self", "one", "other", "columns", "row", "column"] ["self", "one", "other"] (defScope s_Cells_products) := ⟨rfl, rfl, rfl, by decide +kernel, rfl, by decide +kernel, by decide +kernel⟩
abbrev s_times : Stmt := topS 9
theorem sc_times : FnScope ["one", "other"] ["one", "other"] (defScope s_times) := ⟨rfl, rfl, rfl, by decide +kernel, rfl, by decide +kernel, by decide +kernel⟩
abbrev s_Outcomes_product_of : Stmt := mthS (topS 60) 3
theorem sc_Outcomes_product_of : FnScope ["self", "one", "other"] ["self", "one", "other"] (defScope s_Outcomes_product_of) := ⟨rfl, rfl, rfl, by decide +kernel, rfl, by decide +kernel, by decide +kernel⟩
abbrev s_plus : Stmt := topS 8
theorem sc_plus : FnScope ["one", "other"] ["one", "other"] (defScope s_plus) := ⟨rfl, rfl, rfl, by decide +kernel, rfl, by decide +kernel, by decide +kernel⟩
abbrev s_Outcomes_sum_of : Stmt := mthS (topS 60) 2
theorem sc_Outcomes_sum_of : FnScope ["self", "one", "other"] ["self", "one", "other"] (defScope s_Outcomes_sum_of) := ⟨rfl, rfl, rfl, by decide +kernel, rfl, by decide +kernel, by decide +kernel⟩
abbrev s_Cells_with_paths : Stmt := mthS (topS 25) 13
theorem sc_Cells_with_paths : FnScope ["self", "row", "to_place", "around", "from_place", "begun", "there", "further"] ["self", "row", "to_place", "around", "from_place"] (defScope s_Cells_with_paths) := ⟨rfl, rfl, rfl, by decide +kernel, rfl, by decide +kernel, by decide +kernel⟩
abbrev s_Outcomes_powers_of : Stmt := mthS (topS 60) 5
theorem sc_Outcomes_powers_of : FnScope ["self", "one"] ["self", "one"] (defScope s_Outcomes_powers_of) := ⟨rfl, rfl, rfl, by decide +kernel, rfl, by decide +kernel, by decide +kernel⟩
abbrev s_Cells_stars : Stmt := mthS (topS 25) 12
theorem sc_Cells_stars : FnScope ["self", "rows", "sums", "k", "around", "row"] ["self", "rows"] (defScope s_Cells_stars) := ⟨rfl, rfl, rfl, by decide +kernel, rfl, by decide +kernel, by decide +kernel⟩
abbrev s_Cells_sums : Stmt := mthS (topS 25) 9
theorem sc_Cells_sums : FnScope ["self", "one", "other", "row", "line", "first", "second"] ["self", "one", "other"] (defScope s_Cells_sums) := ⟨rfl, rfl, rfl, by decide +kernel, rfl, by decide +kernel, by decide +kernel⟩
abbrev s_Cells_rows_made : Stmt := mthS (topS 25) 8
theorem sc_Cells_rows_made : FnScope ["self", "step", "grids", "one"] ["self", "step", "grids"] (defScope s_Cells_rows_made) := ⟨rfl, rfl, rfl, by decide +kernel, rfl, by decide +kernel, by decide +kernel⟩
abbrev s_Outcomes_put_in : Stmt := mthS (topS 60) 1
theorem sc_Outcomes_put_in : FnScope ["self", "number", "i", "j", "unit"] ["self", "number", "i", "j", "unit"] (defScope s_Outcomes_put_in) := ⟨rfl, rfl, rfl, by decide +kernel, rfl, by decide +kernel, by decide +kernel⟩
abbrev s_Cells_rows_put_in : Stmt := mthS (topS 25) 7
theorem sc_Cells_rows_put_in : FnScope ["self", "number", "grid", "rows", "i", "row", "j", "unit"] ["self", "number", "grid"] (defScope s_Cells_rows_put_in) := ⟨rfl, rfl, rfl, by decide +kernel, rfl, by decide +kernel, by decide +kernel⟩
abbrev s_Cells_grids_of : Stmt := mthS (topS 25) 6
theorem sc_Cells_grids_of : FnScope ["self", "script", "wanted", "many", "grids", "number", "flag"] ["self", "script", "wanted"] (defScope s_Cells_grids_of) := ⟨rfl, rfl, rfl, by decide +kernel, rfl, by decide +kernel, by decide +kernel⟩
abbrev s_Cells_grids_to : Stmt := mthS (topS 25) 5
theorem sc_Cells_grids_to : FnScope ["self", "script", "at"] ["self", "script", "at"] (defScope s_Cells_grids_to) := ⟨rfl, rfl, rfl, by decide +kernel, rfl, by decide +kernel, by decide +kernel⟩
abbrev s_outcome : Stmt := topS 62
theorem sc_outcome : FnScope ["script", "values", "at", "row"] ["script", "values", "at"] (defScope s_outcome) := ⟨rfl, rfl, rfl, by decide +kernel, rfl, by decide +kernel, by decide +kernel⟩
abbrev s__law_is_fraction : Stmt := topS 82
theorem sc__law_is_fraction : FnScope ["thing", "part"] ["thing"] (defScope s__law_is_fraction) := ⟨rfl, rfl, rfl, by decide +kernel, rfl, by decide +kernel, by decide +kernel⟩
abbrev s__law_are_rows : Stmt := topS 87
theorem sc__law_are_rows : FnScope ["thing", "due", "row", "line", "number"] ["thing", "due"] (defScope s__law_are_rows) := ⟨rfl, rfl, rfl, by decide +kernel, rfl, by decide +kernel, by decide +kernel⟩
abbrev s__law_source : Stmt := topS 78
theorem sc__law_source : FnScope ["step", "shapes", "i", "j", "rows", "columns"] ["step", "shapes", "i", "j"] (defScope s__law_source) := ⟨rfl, rfl, rfl, by decide +kernel, rfl, by decide +kernel, by decide +kernel⟩
abbrev s__law_plus : Stmt := topS 83
theorem sc__law_plus : FnScope ["one", "other"] ["one", "other"] (defScope s__law_plus) := ⟨rfl, rfl, rfl, by decide +kernel, rfl, by decide +kernel, by decide +kernel⟩
abbrev s__law_times : Stmt := topS 84
theorem sc__law_times : FnScope ["one", "other"] ["one", "other"] (defScope s__law_times) := ⟨rfl, rfl, rfl, by decide +kernel, rfl, by decide +kernel, by decide +kernel⟩
abbrev s__law_cell_of : Stmt := topS 85
theorem sc__law_cell_of : FnScope ["step", "shapes", "told", "i", "j", "found", "k", "at", "row", "column"] ["step", "shapes", "told", "i", "j"] (defScope s__law_cell_of) := ⟨rfl, rfl, rfl, by decide +kernel, rfl, by decide +kernel, by decide +kernel⟩
abbrev s__law_due : Stmt := topS 86
theorem sc__law_due : FnScope ["world", "values", "told", "at", "step", "shapes", "rows", "columns", "i", "j"] ["world", "values", "told", "at"] (defScope s__law_due) := ⟨rfl, rfl, rfl, by decide +kernel, rfl, by decide +kernel, by decide +kernel⟩
abbrev s_law : Stmt := topS 88
theorem sc_law : FnScope ["script", "state", "world", "values", "subject", "told", "at", "again", "found"] ["script"] (defScope s_law) := ⟨rfl, rfl, rfl, by decide +kernel, rfl, by decide +kernel, by decide +kernel⟩
structure Txt (K : PySem.W.Frag) (mg : Str → Option Value) where
  w0 : World
  D__law_start : DefT K mg "_law_start" s__law_start ["script"]
  D__law_pick : DefT K mg "_law_pick" s__law_pick ["state", "many"]
  D__law_vector : DefT K mg "_law_vector" s__law_vector ["state", "bottoms", "most"]
  D__law_cell : DefT K mg "_law_cell" s__law_cell ["state", "bottoms", "heights", "shift", "i", "j"]
  D__law_row : DefT K mg "_law_row" s__law_row ["state", "bottoms", "heights", "shift", "i", "columns"]
  D__law_grids : DefT K mg "_law_grids" s__law_grids ["state", "bottoms"]
  D__law_shape : DefT K mg "_law_shape" s__law_shape ["step", "shapes"]
  D__law_step : DefT K mg "_law_step" s__law_step ["state", "word", "shapes"]
  D__law_world : DefT K mg "_law_world" s__law_world ["state", "words"]
  D__law_lowest : DefT K mg "_law_lowest" s__law_lowest ["top", "bottom"]
  D__law_number : DefT K mg "_law_number" s__law_number ["state", "is_great"]
  D__law_numbers : DefT K mg "_law_numbers" s__law_numbers ["state", "rows", "is_great"]
  D__law_values : DefT K mg "_law_values" s__law_values ["state", "world"]
  D__law_unit : DefT K mg "_law_unit" s__law_unit ["cell"]
  D__has_grid_length : DefT K mg "_has_grid_length" s__has_grid_length ["thing"]
  D_is_whole : DefT K mg "is_whole" s_is_whole ["thing"]
  D_is_pair : DefT K mg "is_pair" s_is_pair ["thing"]
  D_is_fraction : DefT K mg "is_fraction" s_is_fraction ["thing"]
  D_is_any_unit : DefT K mg "is_any_unit" s_is_any_unit ["thing"]
  D_is_unit : DefT K mg "is_unit" s_is_unit ["bases", "thing"]
  D_is_cell : DefT K mg "is_cell" s_is_cell ["bases", "thing"]
  D__wrong_part : DefT K mg "_wrong_part" s__wrong_part ["bases", "rows"]
  D_BadGrid___init__ : DefM K "__init__" "BadGrid.__init__" s_BadGrid___init__ ["self", "part"]
  D_Grid___init__ : DefM K "__init__" "Grid.__init__" s_Grid___init__ ["self", "bases", "rows"]
  D__law_grid : DefT K mg "_law_grid" s__law_grid ["bases", "rows"]
  D__shape_of_two : DefT K mg "_shape_of_two" s__shape_of_two ["kind", "one", "other"]
  D__piece_shape : DefT K mg "_piece_shape" s__piece_shape ["step", "rows", "columns"]
  D__fitting_shape : DefT K mg "_fitting_shape" s__fitting_shape ["step", "shapes"]
  D_is_index : DefT K mg "is_index" s_is_index ["thing", "many"]
  D_sources : DefT K mg "sources" s_sources ["step"]
  D_is_step : DefT K mg "is_step" s_is_step ["thing", "many"]
  D_made_shape : DefT K mg "made_shape" s_made_shape ["shapes", "thing"]
  D_BadScript___init__ : DefM K "__init__" "BadScript.__init__" s_BadScript___init__ ["self", "part"]
  D__shapes_made : DefT K mg "_shapes_made" s__shapes_made ["shapes", "steps"]
  D__are_grids : DefT K mg "_are_grids" s__are_grids ["thing"]
  D__shape_put_in : DefT K mg "_shape_put_in" s__shape_put_in ["grid"]
  D_Script___init__ : DefM K "__init__" "Script.__init__" s_Script___init__ ["self", "grids", "steps"]
  D__law_script : DefT K mg "_law_script" s__law_script ["world"]
  D__law_words : DefT K mg "_law_words" s__law_words ["state", "many"]
  D_many_grids : DefT K mg "many_grids" s_many_grids ["script"]
  D_GridError___init__ : DefM K "__init__" "GridError.__init__" s_GridError___init__ ["self"]
  D_check_grid : DefT K mg "check_grid" s_check_grid ["script", "at"]
  D__beside_cells : DefT K mg "_beside_cells" s__beside_cells ["grid", "numbers"]
  D__has_shape : DefT K mg "_has_shape" s__has_shape ["grid", "thing"]
  D__is_number_for : DefT K mg "_is_number_for" s__is_number_for ["unit", "thing"]
  D_are_numbers : DefT K mg "are_numbers" s_are_numbers ["grid", "thing"]
  D_is_above_nought : DefT K mg "is_above_nought" s_is_above_nought ["thing"]
  D_are_values : DefT K mg "are_values" s_are_values ["grid", "thing"]
  D_are_all_values : DefT K mg "are_all_values" s_are_all_values ["script", "thing"]
  D_Outcomes___init__ : DefM K "__init__" "Outcomes.__init__" s_Outcomes___init__ ["self", "numbers"]
  D_leading : DefT K mg "leading" s_leading ["script", "at"]
  D_turned : DefT K mg "turned" s_turned ["rows"]
  D_moved : DefT K mg "moved" s_moved ["step", "grids"]
  D_lowest : DefT K mg "lowest" s_lowest ["top", "bottom"]
  D_sum_of_products : DefT K mg "sum_of_products" s_sum_of_products ["pairs"]
  D_Outcomes_inner : DefM K "inner" "Outcomes.inner" s_Outcomes_inner ["self", "row", "column"]
  D_Cells_products : DefM K "products" "Cells.products" s_Cells_products ["self", "one", "other"]
  D_times : DefT K mg "times" s_times ["one", "other"]
  D_Outcomes_product_of : DefM K "product_of" "Outcomes.product_of" s_Outcomes_product_of ["self", "one", "other"]
  D_plus : DefT K mg "plus" s_plus ["one", "other"]
  D_Outcomes_sum_of : DefM K "sum_of" "Outcomes.sum_of" s_Outcomes_sum_of ["self", "one", "other"]
  D_Cells_with_paths : DefM K "with_paths" "Cells.with_paths" s_Cells_with_paths ["self", "row", "to_place", "around", "from_place"]
  D_Outcomes_powers_of : DefM K "powers_of" "Outcomes.powers_of" s_Outcomes_powers_of ["self", "one"]
  D_Cells_stars : DefM K "stars" "Cells.stars" s_Cells_stars ["self", "rows"]
  D_Cells_sums : DefM K "sums" "Cells.sums" s_Cells_sums ["self", "one", "other"]
  D_Cells_rows_made : DefM K "rows_made" "Cells.rows_made" s_Cells_rows_made ["self", "step", "grids"]
  D_Outcomes_put_in : DefM K "put_in" "Outcomes.put_in" s_Outcomes_put_in ["self", "number", "i", "j", "unit"]
  D_Cells_rows_put_in : DefM K "rows_put_in" "Cells.rows_put_in" s_Cells_rows_put_in ["self", "number", "grid"]
  D_Cells_grids_of : DefM K "grids_of" "Cells.grids_of" s_Cells_grids_of ["self", "script", "wanted"]
  D_Cells_grids_to : DefM K "grids_to" "Cells.grids_to" s_Cells_grids_to ["self", "script", "at"]
  D_outcome : DefT K mg "outcome" s_outcome ["script", "values", "at"]
  D__law_is_fraction : DefT K mg "_law_is_fraction" s__law_is_fraction ["thing"]
  D__law_are_rows : DefT K mg "_law_are_rows" s__law_are_rows ["thing", "due"]
  D__law_source : DefT K mg "_law_source" s__law_source ["step", "shapes", "i", "j"]
  D__law_plus : DefT K mg "_law_plus" s__law_plus ["one", "other"]
  D__law_times : DefT K mg "_law_times" s__law_times ["one", "other"]
  D__law_cell_of : DefT K mg "_law_cell_of" s__law_cell_of ["step", "shapes", "told", "i", "j"]
  D__law_due : DefT K mg "_law_due" s__law_due ["world", "values", "told", "at"]
  D_law : DefT K mg "law" s_law ["script"]
  ty_BadGrid___init__ : PySem.W.typeIn K (.ref D_BadGrid___init__.f) = some (.type "function")
  ty_BadScript___init__ : PySem.W.typeIn K (.ref D_BadScript___init__.f) = some (.type "function")
  ty_GridError___init__ : PySem.W.typeIn K (.ref D_GridError___init__.f) = some (.type "function")
  x_BadGrid : ExcT K mg "BadGrid" D_BadGrid___init__.f
  x_BadScript : ExcT K mg "BadScript" D_BadScript___init__.f
  x_NoGrid : ExcT K mg "NoGrid" D_GridError___init__.f
  x_NoValues : ExcT K mg "NoValues" D_GridError___init__.f
  k_Grid : ClsT K mg "Grid" D_Grid___init__.f
  k_Script : ClsT K mg "Script" D_Script___init__.f
  k_Outcomes : ClsT K mg "Outcomes" D_Outcomes___init__.f
  i_Grid : IsiC K k_Grid.C
  mt_Outcomes_grids_of : Meth K k_Outcomes.C "grids_of" D_Cells_grids_of.f
  mt_Outcomes_grids_to : Meth K k_Outcomes.C "grids_to" D_Cells_grids_to.f
  mt_Outcomes_inner : Meth K k_Outcomes.C "inner" D_Outcomes_inner.f
  mt_Outcomes_powers_of : Meth K k_Outcomes.C "powers_of" D_Outcomes_powers_of.f
  mt_Outcomes_product_of : Meth K k_Outcomes.C "product_of" D_Outcomes_product_of.f
  mt_Outcomes_products : Meth K k_Outcomes.C "products" D_Cells_products.f
  mt_Outcomes_put_in : Meth K k_Outcomes.C "put_in" D_Outcomes_put_in.f
  mt_Outcomes_rows_made : Meth K k_Outcomes.C "rows_made" D_Cells_rows_made.f
  mt_Outcomes_rows_put_in : Meth K k_Outcomes.C "rows_put_in" D_Cells_rows_put_in.f
  mt_Outcomes_stars : Meth K k_Outcomes.C "stars" D_Cells_stars.f
  mt_Outcomes_sum_of : Meth K k_Outcomes.C "sum_of" D_Outcomes_sum_of.f
  mt_Outcomes_sums : Meth K k_Outcomes.C "sums" D_Cells_sums.f
  mt_Outcomes_with_paths : Meth K k_Outcomes.C "with_paths" D_Cells_with_paths.f
  na_Grid_bases : NoAttr K k_Grid.C "bases"
  na_Grid_rows : NoAttr K k_Grid.C "rows"
  na_Script_grids : NoAttr K k_Script.C "grids"
  na_Script_steps : NoAttr K k_Script.C "steps"
  na_Script_shapes : NoAttr K k_Script.C "shapes"
  na_Outcomes_nought : NoAttr K k_Outcomes.C "nought"
  na_Outcomes_numbers : NoAttr K k_Outcomes.C "numbers"
  nx_BadGrid_part : PySem.W.findIn K (.ref x_BadGrid.C) "part" = some none
  nx_BadScript_part : PySem.W.findIn K (.ref x_BadScript.C) "part" = some none
  v_VE : PySem.W.findCls K (.type "ValueError") (.type "type") "__init__" = some (.val (.builtin "ValueError.__init__"))
  t_ENDLESS : Tok
  c_ENDLESS : mg "ENDLESS" = some (.str "endless" t_ENDLESS)
  t_LENGTH_OF_TWO : Tok
  c_LENGTH_OF_TWO : mg "LENGTH_OF_TWO" = some (.int 3 t_LENGTH_OF_TWO)
  t_MOST_BASES : Tok
  c_MOST_BASES : mg "MOST_BASES" = some (.int 3 t_MOST_BASES)
  t_MOST_BOTTOM : Tok
  c_MOST_BOTTOM : mg "MOST_BOTTOM" = some (.int 4 t_MOST_BOTTOM)
  t_MOST_GRIDS : Tok
  c_MOST_GRIDS : mg "MOST_GRIDS" = some (.int 6 t_MOST_GRIDS)
  t_MOST_MADE : Tok
  c_MOST_MADE : mg "MOST_MADE" = some (.int 12 t_MOST_MADE)
  t_MOST_ROWS : Tok
  c_MOST_ROWS : mg "MOST_ROWS" = some (.int 10 t_MOST_ROWS)
  t_MOST_STEPS : Tok
  c_MOST_STEPS : mg "MOST_STEPS" = some (.int 16 t_MOST_STEPS)
  t_MOST_TOP : Tok
  c_MOST_TOP : mg "MOST_TOP" = some (.int 6 t_MOST_TOP)
  n_ValueError : mg "ValueError" = none
  n_abs : mg "abs" = none
  n_all : mg "all" = none
  n_any : mg "any" = none
  n_bool : mg "bool" = none
  n_enumerate : mg "enumerate" = none
  n_int : mg "int" = none
  n_isinstance : mg "isinstance" = none
  n_len : mg "len" = none
  n_list : mg "list" = none
  n_max : mg "max" = none
  n_min : mg "min" = none
  n_range : mg "range" = none
  n_str : mg "str" = none
  n_tuple : mg "tuple" = none
  n_zip : mg "zip" = none
  v_gcd : mg "gcd" = some (.builtin "math.gcd")
  d_LENGTHS : Addr
  m_LENGTHS : mg "LENGTHS" = some (.ref d_LENGTHS)
  kd_LENGTHS : KDi K w0 d_LENGTHS [("plus", 3), ("times", 3), ("turned", 2), ("beside", 3), ("above", 3), ("piece", 6), ("star", 2)]
/-- the numbers of all grids that are put in -/
abbrev V_Outcomes := List (List (List Fr))
def numsD (v : V_Outcomes) : D := .tup (v.map fun g => .tup (g.map fun r => .tup (r.map fr)))
def self_Outcomes (C : Addr) (v : V_Outcomes) : D := .ins C ["nought", "numbers"] [fr (0, 1), numsD v]
/-- the fraction that a cell holds -/
def frD : D → Fr
  | .tup [.int a, .int b] => (a, b)
  | _ => (0, 1)
def okV (x : D) : Prop := ∃ p, x = fr p ∧ IsF p ∧ Sz 2000 p
/-- what is summed is small, and all bottoms divide one number -/
structure Small20 (B : Int) (ps : List (Fr × Fr)) : Prop where
  pos : 0 < B
  sm : B.natAbs < 2 ^ 4000
  few : ps.length ≤ 12
  each : ∀ p ∈ ps, IsF p.1 ∧ IsF p.2 ∧ Sz 2000 p.1 ∧ Sz 2000 p.2 ∧ p.1.2 * p.2.2 ∣ B
def prD (p : Fr × Fr) : D := .tup [fr p.1, fr p.2]
def pairsV (r c : List D) : List (Fr × Fr) := List.zipWith (fun x y => (frD x, frD y)) r c
def al_Outcomes (v : V_Outcomes) : Al := { z := fr (0, 1), pl := fun x y => fr (addF (frD x) (frD y)), inn := fun r c => fr (sopF (pairsV r c)), st := id, put := fun i a b _ => fr (((v.getD i []).getD a []).getD b (0, 1)), okP := fun x y => okV x ∧ okV y, okI := fun r c => (∃ ps : List (Fr × Fr), r = ps.map (fun p => fr p.1) ∧ c = ps.map (fun p => fr p.2) ∧ ∃ B, Small20 B ps), okS := fun _ => False, okU := fun i a b _ => ∃ g row p, v[i]? = some g ∧ g[a]? = some row ∧ row[b]? = some p }
theorem zip_prD : ∀ ps : List (Fr × Fr), zipD (ps.map fun p => fr p.1) (ps.map fun p => fr p.2) = ps.map prD
  | [] => rfl
  | p :: ps => by
    have ih := zip_prD ps
    unfold zipD at ih ⊢
    rw [List.map_cons, List.map_cons, List.zipWith_cons_cons, ih]
    rfl
theorem fr_eqv (p q : Fr) : D.eqv (fr p) (fr q) = decide (p = q) := eqvSh p q
theorem end_fine : (D.str "endless").fine = true := by decide +kernel
theorem fr_end (p : Fr) : D.eqv (fr p) (.str "endless") = false := rfl
theorem prD_fine (p : Fr × Fr) : (D.tup [fr p.1, fr p.2]).fine = true := by
  obtain ⟨⟨a, b⟩, c, d⟩ := p
  rfl
theorem pairs_of (ps : List (Fr × Fr)) : pairsV (ps.map fun p => fr p.1) (ps.map fun p => fr p.2) = ps := by
  unfold pairsV
  rw [List.zipWith_map]
  induction ps with
  | nil => rfl
  | cons p ps ih => rw [List.zipWith_cons_cons, ih]; rfl
def QV (B V : Int) (k : Nat) (x : D) : Prop := ∃ p, x = fr p ∧ DegF B V (2 ^ k) p
theorem qv_ok {n k : Nat} {B V : Int} (h : BV n B V) (hk : k ≤ n) {x : D} (hx : QV B V k x) : okV x := by
  obtain ⟨p, rfl, hp⟩ := hx
  exact ⟨p, rfl, hp.f, h.sz hk hp⟩
theorem two_succ (k : Nat) : 2 ^ (k + 1) = 2 ^ k + 2 ^ k := by rw [Nat.pow_succ]; omega
theorem zip_pairs {r c : List D} {Q : Fr → Prop} (hl : r.length = c.length) (hr : ∀ x ∈ r, ∃ p, x = fr p ∧ Q p) (hc : ∀ x ∈ c, ∃ p, x = fr p ∧ Q p) : ∃ ps : List (Fr × Fr), r = ps.map (fun p => fr p.1) ∧ c = ps.map (fun p => fr p.2) ∧ ∀ p ∈ ps, Q p.1 ∧ Q p.2 := by
  obtain ⟨rs, rfl, h1⟩ := all_maps hr
  obtain ⟨cs, rfl, h2⟩ := all_maps hc
  rw [List.length_map, List.length_map] at hl
  refine ⟨rs.zip cs, ?_, ?_, fun p hp => ⟨h1 _ (List.of_mem_zip hp).1, h2 _ (List.of_mem_zip hp).2⟩⟩
  · rw [show (fun p : Fr × Fr => fr p.1) = fr ∘ Prod.fst from rfl, ← List.map_map, List.map_fst_zip (by omega)]
  · rw [show (fun p : Fr × Fr => fr p.2) = fr ∘ Prod.snd from rfl, ← List.map_map, List.map_snd_zip (by omega)]
theorem good_Outcomes {n : Nat} {B V : Int} (h : BV n B V) (v : V_Outcomes) : GoodA (al_Outcomes v) n (QV B V) False where
  up := fun i x hx => by
    obtain ⟨p, rfl, hp⟩ := hx
    exact ⟨p, rfl, hp.mono (by have := h.v2; omega) (by rw [two_succ]; exact Nat.le_add_right _ _)⟩
  pl := fun i x y hi hx hy => by
    refine ⟨⟨qv_ok h (by omega) hx, qv_ok h (by omega) hy⟩, ?_⟩
    obtain ⟨p, rfl, hp⟩ := hx
    obtain ⟨q, rfl, hq⟩ := hy
    refine ⟨addF p q, rfl, ?_⟩
    rw [two_succ]
    exact deg_add h.v2 Nat.one_le_two_pow hp hq
  inn := fun i r c hi hl h1 h12 hr hc => by
    obtain ⟨ps, rfl, rfl, hp⟩ := zip_pairs hl hr hc
    rw [List.length_map] at h12
    have dg := deg_sopF h.b1 h.v2 h12 hp
    have b1 := h.b1
    refine ⟨⟨ps, rfl, rfl, B ^ 2 ^ (i + 1), by exact Int.pow_pos (by omega), h.bs hi, h12, fun p hpp => ?_⟩, ?_⟩
    · obtain ⟨d1, d2⟩ := hp p hpp
      refine ⟨d1.f, d2.f, h.sz (by omega) d1, h.sz (by omega) d2, ?_⟩
      rw [two_succ]
      exact dvd_pow_add d1.b d2.b
    · refine ⟨sopF ps, ?_, by rw [two_succ]; exact dg⟩
      show fr (sopF (pairsV _ _)) = _
      rw [pairs_of]
  st := fun z => z.elim
theorem dg_zero {B V : Int} (hV : 2 ≤ V) (d : Nat) : DegF B V d (0, 1) := ⟨⟨by decide, by decide⟩, by decide, Int.one_dvd _, by
  have := pow_pos' (V := V) (by omega) d
  show 16 * (0 : Int) ≤ V ^ d * 1
  omega⟩
/-- what is put in: the values -/
theorem put_cell {n : Nat} {B V : Int} {gs : List D} {v : V_Outcomes} (hV : 2 ≤ V) (hv : ValsQ B V gs v) (hg : ∀ e ∈ gs, GridP n e) {i a b : Nat} {g : D} {row : List D} {u : D} (h : gs[i]? = some g) (h1 : (celG g)[a]? = some row) (h2 : row[b]? = some u) :
    ∃ x l q, v[i]? = some x ∧ x[a]? = some l ∧ l[b]? = some q ∧ (al_Outcomes v).cell i a b u = fr q ∧ DegF B V 1 q := by
  obtain ⟨rows, cs, c, rfl, e1, e2, rfl, hc⟩ := celG_at (hg g (List.mem_of_getElem? h)) h1 h2
  have iv : i < v.length := by rw [hv.1]; exact (List.getElem?_eq_some_iff.mp h).1
  have ev := List.getElem?_eq_getElem iv
  generalize v[i] = x at ev
  obtain ⟨rows', er, lx, hr⟩ := hv.2 i _ x h ev
  cases er
  have ax : a < x.length := by rw [lx]; exact (List.getElem?_eq_some_iff.mp e1).1
  have ex := List.getElem?_eq_getElem ax
  generalize x[a] = l at ex
  obtain ⟨cs', ec, ll, hq⟩ := hr a _ l e1 ex
  cases ec
  have bl : b < l.length := by rw [ll]; exact (List.getElem?_eq_some_iff.mp e2).1
  have el := List.getElem?_eq_getElem bl
  generalize l[b] = q at el
  have cq := hq b c q e2 el
  refine ⟨x, l, q, ev, ex, el, ?_⟩
  unfold Al.cell
  rw [cellU_non hc]
  rcases cq with ⟨rfl, rfl⟩ | ⟨nn, q0, sq, dq⟩
  · exact ⟨rfl, dg_zero hV 1⟩
  · rw [nn]
    refine ⟨?_, dq⟩
    show fr (((v.getD i []).getD a []).getD b (0, 1)) = fr q
    rw [List.getD_eq_getElem?_getD, List.getD_eq_getElem?_getD, List.getD_eq_getElem?_getD, ev]
    show fr ((((x[a]?).getD [])[b]?).getD (0, 1)) = fr q
    rw [ex]
    show fr ((l[b]?).getD (0, 1)) = fr q
    rw [el]
    rfl
theorem put_eq {n : Nat} {B V : Int} {gs : List D} {v : V_Outcomes} (hV : 2 ≤ V) (hv : ValsQ B V gs v) (hg : ∀ e ∈ gs, GridP n e) {i : Nat} {g : D} {x : List (List Fr)} (h : gs[i]? = some g) (hx : v[i]? = some x) : tupX ((al_Outcomes v).putG i (celG g)) = gridV x := by
  have gp := hg g (List.mem_of_getElem? h)
  obtain ⟨rows', er, lx, hr⟩ := hv.2 i _ x h hx
  have lg : (celG g).length = x.length := by
    subst er
    show (rows'.map celR).length = _
    rw [List.length_map, lx]
  unfold tupX gridV
  congr 1
  apply List.ext_getElem?
  intro a
  unfold Al.putG
  rw [List.map_map, List.getElem?_map, List.getElem?_map, lg]
  rcases Nat.lt_or_ge a x.length with al | al
  · have ea : (celG g)[a]? = some ((celG g).getD a []) := by rw [List.getD_eq_getElem?_getD, List.getElem?_eq_getElem (by rw [lg]; exact al)]; rfl
    rw [List.getElem?_range al, List.getElem?_eq_getElem al]
    show some (D.tup ((al_Outcomes v).putRow i a ((celG g).getD a []))) = some (rowV x[a])
    congr 1
    unfold rowV Al.putRow
    congr 1
    generalize (celG g).getD a [] = row at ea
    have ex := List.getElem?_eq_getElem al
    generalize x[a] = l at ex
    have ll : row.length = l.length := by
      subst er
      have ea : (rows'.map celR)[a]? = some row := ea
      rw [List.getElem?_map] at ea
      cases e : rows'[a]? with
      | none => rw [e] at ea; cases ea
      | some r =>
        rw [e] at ea
        obtain ⟨cs, rfl, hl, _⟩ := hr a r l e ex
        cases ea
        show (cs.map cellU).length = _
        rw [List.length_map, hl]
    apply List.ext_getElem?
    intro b
    rw [List.getElem?_map, List.getElem?_map, ll]
    rcases Nat.lt_or_ge b l.length with bl | bl
    · rw [List.getElem?_range bl]
      have eb : row[b]? = some (row.getD b .non) := listX_at (by rw [ll]; exact bl)
      obtain ⟨x', l', q, y1, y2, y3, y4, _⟩ := put_cell hV hv hg h ea eb
      rw [hx] at y1
      cases y1
      rw [ex] at y2
      cases y2
      rw [y3]
      exact congrArg some y4
    · rw [List.getElem?_eq_none (l := List.range l.length) (by simpa using bl), List.getElem?_eq_none bl]
      rfl
  · rw [List.getElem?_eq_none (l := List.range x.length) (by simpa using al), List.getElem?_eq_none al]
    rfl
section
variable {Pg : Program} {w : World} {K : PySem.W.Frag} {mg : Str → Option Value} {base : Heap}
theorem ok__law_start (T : Txt K mg) : FnOk Pg T.w0 K mg base CX0 1 T.D__law_start.f T.D__law_start.d ["script"] (spStart K) := by
  refine T.D__law_start.F.ok (k := 0) sc__law_start (fun vs H Q E h => by obtain ⟨_, _, rfl, _⟩ := h; rfl) (fun cdv A outer s H vs Q E hr h => ?_)
  refine ⟨_, (pss_cons (ps_setLc (i := 1) (own := [("cell", 2)]) rfl sc__law_start.nd rfl rfl (sw_true rfl rfl rfl (by decide +kernel)) (pi_seqK (K := K) rfl (pe_slice (sl_listK (K := K) rfl) (pv 0) po_none (po_some pe_int))) (blkOk_by (N := ["script", "cells", "cell"]) (sc := defScope s__law_start) (by decide +kernel)) (fun _ _ _ _ _ => (pg_name (i := 2) sc__law_start.nd rfl (by first | exact Or.inl rfl | exact Or.inr rfl))) (fun _ _ _ _ _ => pts_nil) (fun _ _ _ _ _ => (pe_callB call_abs (by rfl) T.n_abs (by decide +kernel) (pa_cons (pe_callTy call_int1 (by rfl) T.n_int (by decide +kernel) (pa_cons (pv 2) pa_nil)) pa_nil))))
    (pss_cons (ps_if (pt_cmpR (op_eqDK (K := K) rfl (hr_u hr)) (pe_callB (call_lenK (K := K) rfl) (by rfl) T.n_len (by decide +kernel) (pa_cons (pv 1) pa_nil)) pe_int (nomark _))
      (pss_one (ps_set (i := 1) sc__law_start.nd rfl (by first | exact Or.inl rfl | exact Or.inr rfl) (pe_lst (pa_cons pe_int pa_nil))))
      pss_nil)
    (pss_one (ps_ret (pe_lst (pa_cons (pv 1) (pa_cons pe_int (pa_cons pe_int pa_nil)))))))), ?_⟩
  try dsimp only [cxOf, Cx.blk, Cx.nox, Cx.wish]
  refine start_body (N := ["cell"]) h (fun i δ => ⟨[2], by simp, gd_name ?_⟩) fun cs hcs hn => ?_
  · walk_at "pd"
    refine ⟨_, rfl, ?_⟩
    split <;> omega
  · walk_at "pd"
    refine ⟨fun z => ?_, fun z => ?_⟩
    · walk_at "pd"
      exact ⟨[0], ⟨by decide, by decide, fun n hn => by rw [List.mem_singleton.mp hn]; decide⟩, rfl⟩
    · walk_at "pd"
      have z := of_decide_eq_false z
      rw [List.length_map] at z
      exact ⟨cs, ⟨by omega, hcs, hn⟩, rfl⟩
def F__law_pick : FD := fun ds P => ∃ n : Int, ds = [.st, .int n] ∧ 0 < n ∧ n.natAbs < 2 ^ 8000 ∧ ∀ r, 0 ≤ r → r < n → P (.int r)
theorem pick_lit {n : Int} {P : D → Prop} (h : (decide (0 < n) && decide (n < 10 ^ 41)) = true) (hP : ∀ r, 0 ≤ r → r < n → P (.int r)) : F__law_pick [.st, .int n] P := by
  rw [Bool.and_eq_true] at h
  have h1 := of_decide_eq_true h.1
  have h2 := of_decide_eq_true h.2
  have h3 : n.natAbs < 2 ^ 140 := by
    have : ((10 : Int) ^ 41).natAbs < 2 ^ 140 := by decide
    omega
  exact ⟨n, rfl, h1, lt_pow h3 (by decide), hP⟩
theorem pick_small {n : Int} {P : D → Prop} (h0 : 0 < n) (h1 : n < 1000000000000) (hP : ∀ r, 0 ≤ r → r < n → P (.int r)) : F__law_pick [.st, .int n] P := by
  have h3 : n.natAbs < 2 ^ 60 := by
    have : (2 : Nat) ^ 60 = 1152921504606846976 := by decide
    omega
  exact ⟨n, rfl, h0, lt_pow h3 (by decide), hP⟩
theorem dr_ix {K : PySem.W.Frag} {σ : L2.St} {H : Hp} {p : Addr} {xs : List V} {te ti : TE} {k : Int} {v : V} (h0 : Evl.Ev te σ H (.ref p)) (h1 : Evl.Ev ti σ H (.int k)) (hs : H p = some (.lst xs)) (hv : atI xs k = some v) : Evl.Ev (tOp (rIx K) te ti) σ H v :=
  Evl.ev_op h0 h1 fun H1 e _ q => .inl ⟨p, xs, k, v, rfl, rfl, .inl (.inl (e _ _ hs)), hv, q H1 (Evl.Ex.refl H1)⟩
theorem dr_len {K : PySem.W.Frag} {σ : L2.St} {H : Hp} {te : TE} {p : Addr} {xs : List V} (h : Evl.Ev te σ H (.ref p)) (hs : H p = some (.lst xs)) :
    Evl.Ev (tCB (fun xs H Q => ∃ x n, xs = [x] ∧ LenV K x H n ∧ Q (.int n) H) (tCons te tNil)) σ H (.int (xs.length : Int)) := fun H1 e Q q =>
  h H1 e _ fun H2 e2 => ⟨_, _, rfl, .inl ⟨xs, .inl (.inl ((e.trans e2) _ _ hs)), rfl⟩, q H2 e2⟩
theorem dr_plus {K : PySem.W.Frag} {σ : L2.St} {H : Hp} {ta tb : TE} {i j : Int} (ha : Evl.Ev ta σ H (.int i)) (hb : Evl.Ev tb σ H (.int j)) : Evl.Ev (tOp (rPlus K) ta tb) σ H (.int (i + j)) :=
  Evl.ev_op ha hb fun H1 _ _ q => .inl ⟨i, j, rfl, rfl, q H1 (Evl.Ex.refl H1)⟩
theorem dr_int {σ : L2.St} {H : Hp} {te : TE} {i : Int} (h : Evl.Ev te σ H (.int i)) : Evl.Ev (tCB (fun xs H Q => (∃ i, xs = [.int i] ∧ Q (.int i) H) ∨ ∃ k, xs = [.bl k] ∧ Q (.int (if k then 1 else 0)) H) (tCons te tNil)) σ H (.int i) := fun H1 e _ q =>
  h H1 e _ fun H2 e2 => .inl ⟨i, rfl, q H2 e2⟩
theorem dr_mul {σ : L2.St} {H : Hp} {ta tb : TE} {i j : Int} (ha : Evl.Ev ta σ H (.int i)) (hb : Evl.Ev tb σ H (.int j)) (h0 : -18446744073709551616 < j) (h1 : j < 18446744073709551616) : Evl.Ev (tOp (rI CMul fun i j => .int (i * j)) ta tb) σ H (.int (i * j)) :=
  Evl.ev_op ha hb (Evl.rv_I (C := CMul) (.inr ⟨by
    have : (2 : Int) ^ 64 = 18446744073709551616 := by decide
    omega, by
    have : (2 : Int) ^ 64 = 18446744073709551616 := by decide
    omega⟩))
theorem dr_mulL {σ : L2.St} {H : Hp} {ta tb : TE} {i j : Int} (ha : Evl.Ev ta σ H (.int i)) (hb : Evl.Ev tb σ H (.int j)) (h0 : -18446744073709551616 < i) (h1 : i < 18446744073709551616) : Evl.Ev (tOp (rI CMul fun i j => .int (i * j)) ta tb) σ H (.int (i * j)) :=
  Evl.ev_op ha hb (Evl.rv_I (C := CMul) (.inl ⟨by
    have : (2 : Int) ^ 64 = 18446744073709551616 := by decide
    omega, by
    have : (2 : Int) ^ 64 = 18446744073709551616 := by decide
    omega⟩))
theorem dr_mod {σ : L2.St} {H : Hp} {ta tb : TE} {i j : Int} (ha : Evl.Ev ta σ H (.int i)) (hb : Evl.Ev tb σ H (.int j)) (h : 0 < j) : Evl.Ev (tOp (rI (fun _ j => 0 < j) fun i j => .int (i % j)) ta tb) σ H (.int (i % j)) := Evl.ev_op ha hb (Evl.rv_I (C := fun _ j => 0 < j) h)
theorem dr_div {σ : L2.St} {H : Hp} {ta tb : TE} {i j : Int} (ha : Evl.Ev ta σ H (.int i)) (hb : Evl.Ev tb σ H (.int j)) (h : 0 < j) (h2 : j < 1000000000000) : Evl.Ev (tOp (rI CDivW fun i j => .int (i / j)) ta tb) σ H (.int (i / j)) := Evl.ev_op ha hb (Evl.rv_I (div_small h h2))
/-- what a pick knows of the heap: entered at H0 -/
structure PkS (W : Wd) (H0 : Hp) (s : Addr) (ns : List Int) (H : Hp) (i c : Int) : Prop where
  kp : Keep W H0 H
  hs : H s = some (.lst [.ref W.b, .int i, .int c])
  hb : H W.b = some (.lst (ns.map V.int))
  i0 : 0 ≤ i
  c0 : 0 ≤ c
  n1 : 1 ≤ ns.length
  n2 : ns.length ≤ 63
  n0 : ∀ n ∈ ns, 0 ≤ n
theorem PkS.ex {W : Wd} {H0 H H' : Hp} {s : Addr} {ns : List Int} {i c : Int} (d : PkS W H0 s ns H i c) (e : Evl.Ex H H') : PkS W H0 s ns H' i c :=
  ⟨d.kp.trans fun a o _ h => e a o h, e _ _ d.hs, e _ _ d.hb, d.i0, d.c0, d.n1, d.n2, d.n0⟩
theorem PkS.set {W : Wd} {H0 H : Hp} {s : Addr} {ns : List Int} {i c i' c' : Int} (d : PkS W H0 s ns H i c) (hW : W.s = some s) (hne : W.b ≠ s) (h1 : 0 ≤ i') (h2 : 0 ≤ c') :
    PkS W H0 s ns (upd H s (.lst [.ref W.b, .int i', .int c'])) i' c' :=
  ⟨fun a o n h => by
    have e : a ≠ s := fun z => n (Wd.S_of hW z)
    rw [upd_ne e]
    exact d.kp a o n h, upd_same, by rw [upd_ne hne]; exact d.hb, h1, h2, d.n1, d.n2, d.n0⟩
theorem PkS.put {W : Wd} {H0 H : Hp} {s : Addr} {ns : List Int} {i c z : Int} {j : Nat} (d : PkS W H0 s ns H i c) (hW : W.s = some s) (hne : W.b ≠ s) (h : 0 ≤ z) : PkS W H0 s (ns.set j z) (upd H W.b (.lst ((ns.set j z).map V.int))) i c :=
  ⟨fun a o n h => by
    have e : a ≠ W.b := fun z => n (Wd.S_b hW z)
    rw [upd_ne e]
    exact d.kp a o n h, by rw [upd_ne (fun z => hne z.symm)]; exact d.hs, upd_same, d.i0, d.c0, by rw [List.length_set]; exact d.n1, by rw [List.length_set]; exact d.n2, fun n hn => by
    rcases List.mem_or_eq_of_mem_set hn with hn | rfl
    · exact d.n0 n hn
    · exact h⟩
theorem len__law_pick : ∀ ds P, F__law_pick ds P → ds.length = 2 := by (intro ds P h; first | exact h | (obtain ⟨_, rfl, _⟩ := h; rfl) | (obtain ⟨_, _, rfl, _⟩ := h; rfl) | (obtain ⟨_, _, _, rfl, _⟩ := h; rfl) | (obtain ⟨_, _, _, _, rfl, _⟩ := h; rfl) | (obtain ⟨_, _, _, _, _, rfl, _⟩ := h; rfl) | (obtain ⟨_, _, _, _, _, _, rfl, _⟩ := h; rfl) | (obtain ⟨_, _, _, _, _, _, _, rfl, _⟩ := h; rfl) | (obtain ⟨_, _, _, _, _, _, _, _, rfl, _⟩ := h; rfl) | (obtain ⟨_, _, _, _, _, _, _, _, _, rfl, _⟩ := h; rfl) | (obtain ⟨_, _, _, _, _, _, _, _, _, _, rfl, _⟩ := h; rfl) | (obtain ⟨_, _, _, _, _, _, _, _, _, _, _, rfl, _⟩ := h; rfl) | (obtain ⟨_, _, _, _, _, _, _, _, _, _, _, _, rfl, _⟩ := h; rfl) | (obtain ⟨_, _, _, _, _, _, _, _, _, _, _, _, _, rfl, _⟩ := h; rfl) | (obtain ⟨_, _, _, _, _, _, _, _, _, _, _, _, _, rfl, _⟩ := h; rfl) | (obtain ⟨_, _, _, _, _, _, _, _, _, _, _, _, _, _, rfl, _⟩ := h; rfl) | (obtain ⟨_, _, _, _, _, _, _, _, _, _, _, _, _, _, _, rfl, _⟩ := h; rfl) | (obtain ⟨_, _, _, _, _, _, _, _, _, _, _, _, _, _, _, _, rfl, _⟩ := h; rfl) | (obtain ⟨_, _, _, _, _, _, _, _, _, _, _, _, _, _, _, _, _, rfl, _⟩ := h; rfl) | (obtain ⟨_, _, _, _, _, _, _, _, _, _, _, _, _, _, _, _, _, _, rfl, _⟩ := h; rfl) | (obtain ⟨_, _, _, _, _, _, _, _, _, _, _, _, _, _, _, _, _, _, _, rfl, _⟩ := h; rfl) | (obtain ⟨_, _, _, _, _, _, _, _, _, _, _, _, _, _, _, _, _, _, _, _, rfl, _⟩ := h; rfl) | (obtain ⟨_, _, _, _, _, _, _, _, _, _, _, _, _, _, _, _, _, _, _, _, _, rfl, _⟩ := h; rfl) | (obtain ⟨rfl, _⟩ := h; rfl))
theorem ok__law_pick (T : Txt K mg) : FnOk Pg T.w0 K mg base CX0 1 T.D__law_pick.f T.D__law_pick.d ["state", "many"] ((spD K F__law_pick)) := by
  refine T.D__law_pick.F.ok (k := 0) sc__law_pick (spD_len (len__law_pick)) (fun cdv A outer s H vs Q E hr h => ?_)
  refine ⟨_, (pss_cons (ps_set (i := 2) sc__law_pick.nd rfl (by first | exact Or.inl rfl | exact Or.inr rfl) (pe_ix (ix_seqK (K := K) rfl) (pv 0) pe_int (fun _ _ => rfl)))
    (pss_cons (ps_set (i := 3) sc__law_pick.nd rfl (by first | exact Or.inl rfl | exact Or.inr rfl) (pe_op op_mod (pe_callTy call_int1 (by rfl) T.n_int (by decide +kernel) (pa_cons (pe_ix (ix_seqK (K := K) rfl) (pv 0) pe_int (fun _ _ => rfl)) pa_nil)) (pe_callB (call_lenK (K := K) rfl) (by rfl) T.n_len (by decide +kernel) (pa_cons (pv 2) pa_nil))))
    (pss_cons (ps_augS (pv 0) pe_int get_listN pe_int ip_add set_list)
    (pss_cons (ps_set (i := 4) sc__law_pick.nd rfl (by first | exact Or.inl rfl | exact Or.inr rfl) (pe_ix (ix_seqK (K := K) rfl) (pv 2) (pv 3) (fun _ _ => rfl)))
    (pss_cons (ps_if (pt_cmpR op_ge (pv 4) (pe_op op_pow pe_int pe_int) (nomark _))
      (pss_cons (ps_asg (pe_op op_fdivW (pv 4) (pv 1)) (pg_sub (pv 2) (pv 3) set_list))
    (pss_one (ps_ret (pe_op op_mod (pe_callTy call_int1 (by rfl) T.n_int (by decide +kernel) (pa_cons (pv 4) pa_nil)) (pv 1)))))
      pss_nil)
    (pss_cons (ps_augS (pv 0) pe_int get_listN pe_int ip_add set_list)
    (pss_cons (ps_set (i := 5) sc__law_pick.nd rfl (by first | exact Or.inl rfl | exact Or.inr rfl) (pe_op op_mod (pe_callTy call_int1 (by rfl) T.n_int (by decide +kernel) (pa_cons (pe_op op_mul (pe_op (op_plusK (K := K) rfl) (pe_op (op_plusK (K := K) rfl) (pv 4) (pe_op op_mul pe_int (pe_ix (ix_seqK (K := K) rfl) (pv 0) pe_int (fun _ _ => rfl)))) pe_int) pe_int) pa_nil)) pe_int))
    (pss_cons (ps_set (i := 5) sc__law_pick.nd rfl (by first | exact Or.inl rfl | exact Or.inr rfl) (pe_op op_mod (pe_callTy call_int1 (by rfl) T.n_int (by decide +kernel) (pa_cons (pe_op op_mul (pv 5) (pe_op (op_plusK (K := K) rfl) (pe_op op_fdivW (pv 5) pe_int) pe_int)) pa_nil)) pe_int))
    (pss_cons (ps_set (i := 5) sc__law_pick.nd rfl (by first | exact Or.inl rfl | exact Or.inr rfl) (pe_op op_mod (pe_callTy call_int1 (by rfl) T.n_int (by decide +kernel) (pa_cons (pe_op op_mul (pv 5) (pe_op (op_plusK (K := K) rfl) (pe_op op_fdivW (pv 5) pe_int) pe_int)) pa_nil)) pe_int))
    (pss_one (ps_ret (pe_op op_mod (pe_callTy call_int1 (by rfl) T.n_int (by decide +kernel) (pa_cons (pe_op op_fdivW (pv 5) pe_int) pa_nil)) (pv 1))))))))))))), ?_⟩
  try dsimp only [cxOf, Cx.blk, Cx.nox, Cx.wish]
  obtain ⟨W, M, ds, P, eK, wf, hr1, ⟨n, rfl, hn, hn2, hP⟩, q⟩ := h
  subst eK
  cases hr1 with
  | cons r1 r2 =>
  cases r2 with
  | cons r2 r3 =>
  cases r3
  cases r2
  cases r1 with
  | @st s hW =>
  obtain ⟨ns, i, c, _, hs, hne, hb, i0, c0, n1, n2, n0⟩ := wf.g s hW
  have dS : PkS W H s ns H i c := ⟨Keep.refl H, hs, hb, i0, c0, n1, n2, n0⟩
  have ok : ∀ {H' : Hp} {ns : List Int} {i c : Int}, PkS W H s ns H' i c → ∀ r, 0 ≤ r → r < n → Q (.int r) H' := fun {H' ns i c} d r h0 h1 => q (.int r) (.int r) H' (fun s' e => by
    have e2 : s' = s := Option.some.inj (e.symm.trans hW)
    subst e2
    exact ⟨ns, i, c, (), d.hs, hne, d.hb, d.i0, d.c0, d.n1, d.n2, d.n0⟩) d.kp (.int r) (hP r h0 h1)
  have at0 : ∀ {i c : Int}, atI [V.ref W.b, .int i, .int c] 0 = some (.ref W.b) := atI_nat (j := 0) rfl
  have at1 : ∀ {i c : Int}, atI [V.ref W.b, .int i, .int c] 1 = some (.int i) := atI_nat (j := 1) rfl
  have at2 : ∀ {i c : Int}, atI [V.ref W.b, .int i, .int c] 2 = some (.int c) := atI_nat (j := 2) rfl
  refine Evl.q_asg (dr_ix (Evl.ev_var rfl) Evl.ev_c dS.hs at0) fun H1 e1 => ?_
  have d1 := dS.ex e1
  have lp : (0 : Int) < (((ns.map V.int).length : Nat) : Int) := by rw [List.length_map]; omega
  refine Evl.q_asg (dr_mod (dr_int (dr_ix (Evl.ev_var rfl) Evl.ev_c d1.hs at1)) (dr_len (Evl.ev_var rfl) d1.hb) lp) fun H2 e2 => ?_
  have d2 := d1.ex e2
  obtain ⟨j, hj⟩ := Int.eq_ofNat_of_zero_le (Int.emod_nonneg i (b := (((ns.map V.int).length : Nat) : Int)) (by omega))
  have hjl : j < ns.length := by
    have := Int.emod_lt_of_pos i lp
    rw [List.length_map] at this hj
    omega
  rw [hj]
  refine ⟨.ref s, rfl, s, _, 1, _, rfl, rfl, d2.hs, rfl, i, 1, rfl, rfl, s, _, 1, 1, rfl, rfl, d2.hs, rfl, ?_⟩
  have d3 := d2.set (i' := i + 1) (c' := c) hW hne (by omega) d2.c0
  show tSeq _ _ _ _ (upd H2 s (.lst [.ref W.b, .int (i + 1), .int c]))
  generalize upd H2 s (.lst [.ref W.b, .int (i + 1), .int c]) = H3 at d3
  have hat : atI (ns.map V.int) (j : Int) = some (.int ns[j]) := atI_nat (by rw [List.getElem?_map, List.getElem?_eq_getElem hjl]; rfl)
  have x0 := d3.n0 _ (List.getElem_mem hjl)
  refine Evl.q_asg (dr_ix (Evl.ev_var rfl) (Evl.ev_var rfl) d3.hb hat) fun H4 e4 => ?_
  have d4 := d3.ex e4
  generalize hx : ns[j] = x at x0
  refine Evl.q_if (Evl.et_test (Evl.ev_op (Evl.ev_var rfl) (Evl.ev_op Evl.ev_c Evl.ev_c (Evl.rv_I ⟨by decide, by decide, by decide⟩)) Evl.rv_I0)) (fun hb2 H5 e5 => ?_) (fun hb2 H5 e5 => ?_)
  · have d5 := d4.ex e5
    refine Evl.q_setL (j := j) d5.hb (Evl.ev_op (Evl.ev_var rfl) (Evl.ev_var rfl) (Evl.rv_I (div_ok hn hn2))) (Evl.ev_var rfl) (Evl.ev_var rfl) (by rw [List.length_map]; exact hjl) fun H6 e6 => ?_
    have d6 := (d5.ex e6).put (j := j) (z := x / n) hW hne (Int.ediv_nonneg x0 (by omega))
    rw [List.map_set] at d6
    refine Evl.s_ret (dr_mod (dr_int (Evl.ev_var rfl)) (Evl.ev_var rfl) hn) fun H7 e7 => ?_
    exact ok (d6.ex e7) _ (Int.emod_nonneg _ (by omega)) (Int.emod_lt_of_pos _ hn)
  · have d5 := d4.ex e5
    refine ⟨.ref s, rfl, s, _, 2, _, rfl, rfl, d5.hs, rfl, c, 1, rfl, rfl, s, _, 2, 2, rfl, rfl, d5.hs, rfl, ?_⟩
    have d6 := d5.set (i' := i + 1) (c' := c + 1) hW hne d5.i0 (by omega)
    show tSeq _ _ _ _ (upd H5 s (.lst [.ref W.b, .int (i + 1), .int (c + 1)]))
    generalize upd H5 s (.lst [.ref W.b, .int (i + 1), .int (c + 1)]) = H6 at d6
    refine Evl.q_asg (dr_mod (dr_int (dr_mul (dr_plus (dr_plus (Evl.ev_var rfl) (dr_mulL Evl.ev_c (dr_ix (Evl.ev_var rfl) Evl.ev_c d6.hs at2) (by decide) (by decide))) Evl.ev_c) Evl.ev_c (by decide) (by decide))) Evl.ev_c (by decide)) fun H7 e7 => ?_
    have d7 := d6.ex e7
    have b1 := Int.emod_nonneg ((x + 7919 * (c + 1) + 1) * 48271) (b := 2147483647) (by decide)
    have b2 := Int.emod_lt_of_pos ((x + 7919 * (c + 1) + 1) * 48271) (b := 2147483647) (by decide)
    generalize (x + 7919 * (c + 1) + 1) * 48271 % 2147483647 = r0 at b1 b2
    refine Evl.q_asg (dr_mod (dr_int (dr_mul (Evl.ev_var rfl) (dr_plus (dr_div (Evl.ev_var rfl) Evl.ev_c (by decide) (by decide)) Evl.ev_c) (by omega) (by omega))) Evl.ev_c (by decide)) fun H8 e8 => ?_
    have d8 := d7.ex e8
    have b3 := Int.emod_nonneg (r0 * (r0 / 1009 + 69621)) (b := 2147483647) (by decide)
    have b4 := Int.emod_lt_of_pos (r0 * (r0 / 1009 + 69621)) (b := 2147483647) (by decide)
    generalize r0 * (r0 / 1009 + 69621) % 2147483647 = r1 at b3 b4
    refine Evl.q_asg (dr_mod (dr_int (dr_mul (Evl.ev_var rfl) (dr_plus (dr_div (Evl.ev_var rfl) Evl.ev_c (by decide) (by decide)) Evl.ev_c) (by omega) (by omega))) Evl.ev_c (by decide)) fun H9 e9 => ?_
    have d9 := d8.ex e9
    refine Evl.s_ret (dr_mod (dr_int (dr_div (Evl.ev_var rfl) Evl.ev_c (by decide) (by decide))) (Evl.ev_var rfl) hn) fun H10 e10 => ?_
    exact ok (d9.ex e10) _ (Int.emod_nonneg _ (by omega)) (Int.emod_lt_of_pos _ hn)
theorem pt_of {n b most : Int} (h1 : 1 ≤ b) (h4 : b ≤ 4) (n0 : 0 ≤ n) (hn : n < 2 * most + 1) : Pt b most ((n - most) * 12 / b) := by
  refine ⟨n - most, ?_, by omega, by omega⟩
  have : b = 1 ∨ b = 2 ∨ b = 3 ∨ b = 4 := by omega
  rcases this with rfl | rfl | rfl | rfl <;> omega
def F__law_vector : FD := fun ds P => ∃ (bs : List Int) (most : Int), ds = [.st, vecD bs, .int most] ∧ OkB bs ∧ 0 ≤ most ∧ most ≤ 3 ∧ ∀ v, Vec bs most v → P (vecD v)
theorem len__law_vector : ∀ ds P, F__law_vector ds P → ds.length = 3 := by (intro ds P h; first | exact h | (obtain ⟨_, rfl, _⟩ := h; rfl) | (obtain ⟨_, _, rfl, _⟩ := h; rfl) | (obtain ⟨_, _, _, rfl, _⟩ := h; rfl) | (obtain ⟨_, _, _, _, rfl, _⟩ := h; rfl) | (obtain ⟨_, _, _, _, _, rfl, _⟩ := h; rfl) | (obtain ⟨_, _, _, _, _, _, rfl, _⟩ := h; rfl) | (obtain ⟨_, _, _, _, _, _, _, rfl, _⟩ := h; rfl) | (obtain ⟨_, _, _, _, _, _, _, _, rfl, _⟩ := h; rfl) | (obtain ⟨_, _, _, _, _, _, _, _, _, rfl, _⟩ := h; rfl) | (obtain ⟨_, _, _, _, _, _, _, _, _, _, rfl, _⟩ := h; rfl) | (obtain ⟨_, _, _, _, _, _, _, _, _, _, _, rfl, _⟩ := h; rfl) | (obtain ⟨_, _, _, _, _, _, _, _, _, _, _, _, rfl, _⟩ := h; rfl) | (obtain ⟨_, _, _, _, _, _, _, _, _, _, _, _, _, rfl, _⟩ := h; rfl) | (obtain ⟨_, _, _, _, _, _, _, _, _, _, _, _, _, rfl, _⟩ := h; rfl) | (obtain ⟨_, _, _, _, _, _, _, _, _, _, _, _, _, _, rfl, _⟩ := h; rfl) | (obtain ⟨_, _, _, _, _, _, _, _, _, _, _, _, _, _, _, rfl, _⟩ := h; rfl) | (obtain ⟨_, _, _, _, _, _, _, _, _, _, _, _, _, _, _, _, rfl, _⟩ := h; rfl) | (obtain ⟨_, _, _, _, _, _, _, _, _, _, _, _, _, _, _, _, _, rfl, _⟩ := h; rfl) | (obtain ⟨_, _, _, _, _, _, _, _, _, _, _, _, _, _, _, _, _, _, rfl, _⟩ := h; rfl) | (obtain ⟨_, _, _, _, _, _, _, _, _, _, _, _, _, _, _, _, _, _, _, rfl, _⟩ := h; rfl) | (obtain ⟨_, _, _, _, _, _, _, _, _, _, _, _, _, _, _, _, _, _, _, _, rfl, _⟩ := h; rfl) | (obtain ⟨_, _, _, _, _, _, _, _, _, _, _, _, _, _, _, _, _, _, _, _, _, rfl, _⟩ := h; rfl) | (obtain ⟨rfl, _⟩ := h; rfl))
theorem ok__law_vector (T : Txt K mg) : FnOk Pg T.w0 K mg base CX0 2 T.D__law_vector.f T.D__law_vector.d ["state", "bottoms", "most"] ((spD K F__law_vector)) := by
  have G__law_pick := ok__law_pick (Pg := Pg) (base := base) T
  refine T.D__law_vector.F.ok (k := 1) sc__law_vector (spD_len (len__law_vector)) (fun cdv A outer s H vs Q E hr h => ?_)
  refine ⟨_, (pss_one (ps_ret (pe_lc (own := [("bottom", 3)]) rfl sc__law_vector.nd (pi_seqK (K := K) rfl (pv 1)) (blkOk_by (N := ["state", "bottoms", "most", "bottom"]) (sc := defScope s__law_vector) (by decide +kernel)) (fun _ _ _ _ _ => (pg_name (i := 3) sc__law_vector.nd rfl (by first | exact Or.inl rfl | exact Or.inr rfl))) (fun _ _ _ _ _ => pts_nil) (fun _ _ _ _ _ => (pe_op op_fdivW (pe_op op_mulW (pe_op op_sub (pe_call G__law_pick (hr.mono (by decide)) (by rfl) T.D__law_pick.g T.D__law_pick.F.kp T.D__law_pick.b .nil pass0 (pa_cons (pv 0) (pa_cons (pe_op (op_plusK (K := K) rfl) (pe_op op_mulW pe_int (pv 2)) pe_int) pa_nil))) (pv 2)) pe_int) (pv 3)))))), ?_⟩
  try dsimp only [cxOf, Cx.blk, Cx.nox, Cx.wish]
  (refine body_of h fun W ds P eK f => ?_); subst eK
  obtain ⟨bs, most, rfl, ⟨b1, b3, hb⟩, m0, m3, hP⟩ := f
  walk_at "pd"
  refine ev_lc (it_seqL (ev_var rfl ⟨bs.map D.int, rfl, by rw [List.length_map]; omega, fun i acc => ∃ v : List Int, acc = v.map D.int ∧ Vec (bs.take i) most v, ⟨[], rfl, rfl, fun k b x h _ => by simp at h⟩, fun i d acc hd hI => ?_, fun acc hI => ?_⟩))
  · obtain ⟨v, rfl, lv, hv⟩ := hI
    rw [List.getElem?_map] at hd
    cases hz : bs[i]? with
    | none => rw [hz] at hd; cases hd
    | some b =>
      rw [hz] at hd
      cases hd
      have hb2 := hb b (List.mem_of_getElem? hz)
      have il := (List.getElem?_eq_some_iff.mp hz).1
      refine ⟨[3], by simp, gd_name (et_yes ⟨fun _ => ?_, fun z => by cases z⟩)⟩
      walk_at "pd"
      · exact mul_small (by decide) (by decide) (by omega) (by omega)
      refine pick_small (by omega) (by omega) fun r r0 r1 => ?_
      walk_at "pd"
      · exact mul_small (by omega) (by omega) (by decide) (by decide)
      · exact div_small (by omega) (by omega)
      refine ⟨v ++ [(r - most) * 12 / b], by rw [List.map_append]; rfl, ?_, fun k b' x h1 h2 => ?_⟩
      · rw [List.length_append, lv, List.length_take, List.length_take]
        show _ + 1 = _
        omega
      · rw [List.length_take] at lv
        rw [List.getElem?_append] at h2
        rw [← take_snoc hz, List.getElem?_append, List.length_take] at h1
        by_cases hk : k < v.length
        · rw [if_pos hk] at h2
          rw [if_pos (by omega)] at h1
          exact hv k b' x h1 h2
        · rw [if_neg hk] at h2
          rw [if_neg (by omega)] at h1
          have k0 : k - v.length = 0 := by
            have := (List.getElem?_eq_some_iff.mp h2).1
            simp at this
            omega
          rw [k0] at h2
          rw [show k - min i bs.length = 0 by omega] at h1
          cases h1
          cases h2
          exact pt_of hb2.1 hb2.2 r0 (by omega)
  · obtain ⟨v, rfl, hv⟩ := hI
    rw [List.length_map, List.take_length] at hv
    exact hP v hv
theorem vec_cell {bs v : List Int} (h : Vec bs 3 v) (hb : ∀ b ∈ bs, 1 ≤ b ∧ b ≤ 4) : ∀ x ∈ v, PtC x := fun x hx => by
  obtain ⟨k, hk⟩ := List.mem_iff_getElem?.mp hx
  have kl := (List.getElem?_eq_some_iff.mp hk).1
  have hl := h.1
  have e : bs[k]? = some bs[k] := List.getElem?_eq_getElem (by omega)
  have := hb _ (List.getElem_mem (by omega : k < bs.length))
  exact ⟨_, this.1, this.2, h.2 k _ x e hk⟩
def F__law_cell : FD := fun ds P => ∃ (bs : List Int) (hs : List (List Int)) (sh : List Int) (i j : Nat), ds = [.st, vecD bs, .lst (hs.map vecD), vecD sh, .int i, .int j] ∧ OkB bs ∧ (∀ h ∈ hs, Vec bs 1 h) ∧ Vec bs 1 sh ∧ i < hs.length ∧ j < hs.length ∧ ∀ c, CellP bs.length c → P c
theorem len__law_cell : ∀ ds P, F__law_cell ds P → ds.length = 6 := by (intro ds P h; first | exact h | (obtain ⟨_, rfl, _⟩ := h; rfl) | (obtain ⟨_, _, rfl, _⟩ := h; rfl) | (obtain ⟨_, _, _, rfl, _⟩ := h; rfl) | (obtain ⟨_, _, _, _, rfl, _⟩ := h; rfl) | (obtain ⟨_, _, _, _, _, rfl, _⟩ := h; rfl) | (obtain ⟨_, _, _, _, _, _, rfl, _⟩ := h; rfl) | (obtain ⟨_, _, _, _, _, _, _, rfl, _⟩ := h; rfl) | (obtain ⟨_, _, _, _, _, _, _, _, rfl, _⟩ := h; rfl) | (obtain ⟨_, _, _, _, _, _, _, _, _, rfl, _⟩ := h; rfl) | (obtain ⟨_, _, _, _, _, _, _, _, _, _, rfl, _⟩ := h; rfl) | (obtain ⟨_, _, _, _, _, _, _, _, _, _, _, rfl, _⟩ := h; rfl) | (obtain ⟨_, _, _, _, _, _, _, _, _, _, _, _, rfl, _⟩ := h; rfl) | (obtain ⟨_, _, _, _, _, _, _, _, _, _, _, _, _, rfl, _⟩ := h; rfl) | (obtain ⟨_, _, _, _, _, _, _, _, _, _, _, _, _, rfl, _⟩ := h; rfl) | (obtain ⟨_, _, _, _, _, _, _, _, _, _, _, _, _, _, rfl, _⟩ := h; rfl) | (obtain ⟨_, _, _, _, _, _, _, _, _, _, _, _, _, _, _, rfl, _⟩ := h; rfl) | (obtain ⟨_, _, _, _, _, _, _, _, _, _, _, _, _, _, _, _, rfl, _⟩ := h; rfl) | (obtain ⟨_, _, _, _, _, _, _, _, _, _, _, _, _, _, _, _, _, rfl, _⟩ := h; rfl) | (obtain ⟨_, _, _, _, _, _, _, _, _, _, _, _, _, _, _, _, _, _, rfl, _⟩ := h; rfl) | (obtain ⟨_, _, _, _, _, _, _, _, _, _, _, _, _, _, _, _, _, _, _, rfl, _⟩ := h; rfl) | (obtain ⟨_, _, _, _, _, _, _, _, _, _, _, _, _, _, _, _, _, _, _, _, rfl, _⟩ := h; rfl) | (obtain ⟨_, _, _, _, _, _, _, _, _, _, _, _, _, _, _, _, _, _, _, _, _, rfl, _⟩ := h; rfl) | (obtain ⟨rfl, _⟩ := h; rfl))
theorem ok__law_cell (T : Txt K mg) : FnOk Pg T.w0 K mg base CX0 3 T.D__law_cell.f T.D__law_cell.d ["state", "bottoms", "heights", "shift", "i", "j"] ((spD K F__law_cell)) := by
  have G__law_pick := ok__law_pick (Pg := Pg) (base := base) T
  have G__law_vector := ok__law_vector (Pg := Pg) (base := base) T
  refine T.D__law_cell.F.ok (k := 2) sc__law_cell (spD_len (len__law_cell)) (fun cdv A outer s H vs Q E hr h => ?_)
  refine ⟨_, (pss_cons (ps_set (i := 6) sc__law_cell.nd rfl (by first | exact Or.inl rfl | exact Or.inr rfl) (pe_call G__law_pick (hr.mono (by decide)) (by rfl) T.D__law_pick.g T.D__law_pick.F.kp T.D__law_pick.b .nil pass0 (pa_cons (pv 0) (pa_cons pe_int pa_nil))))
    (pss_cons (ps_if (pt_cmpR op_lt (pv 6) pe_int (nomark _))
      (pss_one (ps_ret pe_non))
      pss_nil)
    (pss_cons (ps_if (pt_cmpR (op_eqDK (K := K) rfl (hr_u hr)) (pv 6) pe_int (nomark _))
      (pss_one (ps_ret (pe_call G__law_vector (hr.mono (by decide)) (by rfl) T.D__law_vector.g T.D__law_vector.F.kp T.D__law_vector.b .nil pass0 (pa_cons (pv 0) (pa_cons (pe_lc (own := [("bottom", 8)]) rfl sc__law_cell.nd (pi_seqK (K := K) rfl (pv 1)) (blkOk_by (N := ["state", "bottoms", "heights", "shift", "i", "j", "choice", "base", "bottom"]) (sc := defScope s__law_cell) (by decide +kernel)) (fun _ _ _ _ _ => (pg_name (i := 8) sc__law_cell.nd rfl (by first | exact Or.inl rfl | exact Or.inr rfl))) (fun _ _ _ _ _ => pts_nil) (fun _ _ _ _ _ => (pe_op (op_plusK (K := K) rfl) pe_int (pe_call G__law_pick (hr.mono (by decide)) (by rfl) T.D__law_pick.g T.D__law_pick.F.kp T.D__law_pick.b .nil pass0 (pa_cons (pv 0) (pa_cons pe_int pa_nil)))))) (pa_cons pe_int pa_nil))))))
      pss_nil)
    (pss_one (ps_ret (pe_lc (own := [("base", 7)]) rfl sc__law_cell.nd (pi_range1 (by rfl) T.n_range (pa_cons (pe_callB (call_lenK (K := K) rfl) (by rfl) T.n_len (by decide +kernel) (pa_cons (pv 1) pa_nil)) pa_nil)) (blkOk_by (N := ["state", "bottoms", "heights", "shift", "i", "j", "choice", "base", "bottom"]) (sc := defScope s__law_cell) (by decide +kernel)) (fun _ _ _ _ _ => (pg_name (i := 7) sc__law_cell.nd rfl (by first | exact Or.inl rfl | exact Or.inr rfl))) (fun _ _ _ _ _ => pts_nil) (fun _ _ _ _ _ => (pe_op (op_plusK (K := K) rfl) (pe_op op_sub (pe_ix (ix_seqK (K := K) rfl) (pe_ix (ix_seqK (K := K) rfl) (pv 2) (pv 4) (fun _ _ => rfl)) (pv 7) (fun _ _ => rfl)) (pe_ix (ix_seqK (K := K) rfl) (pe_ix (ix_seqK (K := K) rfl) (pv 2) (pv 5) (fun _ _ => rfl)) (pv 7) (fun _ _ => rfl))) (pe_ix (ix_seqK (K := K) rfl) (pv 3) (pv 7) (fun _ _ => rfl)))))))))), ?_⟩
  try dsimp only [cxOf, Cx.blk, Cx.nox, Cx.wish]
  (refine body_of h fun W ds P eK f => ?_); subst eK
  obtain ⟨bs, hs, sh, i, j, rfl, ⟨b1, b3, hb⟩, hh, hsh, hi, hj, hP⟩ := f
  walk_at "pd"
  refine pick_lit (by decide +kernel) fun c c0 c1 => ?_
  walk_at "pd"
  refine ⟨fun z => ?_, fun z => ?_⟩
  · walk_at "pd"
    exact hP _ (.inl rfl)
  walk_at "pd"
  refine ⟨fun z => ?_, fun z => ?_⟩
  · walk_at "pd"
    refine ev_lc (it_seqL (ev_var rfl ⟨bs.map D.int, rfl, by rw [List.length_map]; omega, fun k acc => ∃ b2 : List Int, acc = b2.map D.int ∧ b2.length = k ∧ ∀ b ∈ b2, 1 ≤ b ∧ b ≤ 4, ⟨[], rfl, rfl, fun _ h => by cases h⟩, fun k d acc hd hI => ?_, fun acc hI => ?_⟩))
    · obtain ⟨b2, rfl, l2, h2⟩ := hI
      obtain ⟨x, _, rfl⟩ := List.mem_map.mp (List.mem_of_getElem? hd)
      refine ⟨[8], by simp, gd_name (et_yes ⟨fun _ => ?_, fun z => by cases z⟩)⟩
      walk_at "pd"
      refine pick_lit (by decide +kernel) fun r r0 r1 => ?_
      walk_at "pd"
      refine ⟨b2 ++ [1 + r], by rw [List.map_append]; rfl, by rw [List.length_append, l2]; rfl, fun b hm => ?_⟩
      rcases List.mem_append.mp hm with hm | hm
      · exact h2 b hm
      · rw [List.mem_singleton.mp hm]
        omega
    · obtain ⟨b2, rfl, l2, h2⟩ := hI
      rw [List.length_map] at l2
      walk_at "pd"
      refine ⟨b2, 3, rfl, ⟨by omega, by omega, h2⟩, by decide, by decide, fun v hv => ?_⟩
      exact hP _ (.inr ⟨v, rfl, by rw [hv.1, l2], vec_cell hv h2⟩)
  walk_at "pd"
  have ei : hs[i]? = some hs[i] := List.getElem?_eq_getElem hi
  have ej : hs[j]? = some hs[j] := List.getElem?_eq_getElem hj
  have vi := hh _ (List.getElem_mem hi)
  have vj := hh _ (List.getElem_mem hj)
  generalize hs[i] = a at ei vi
  generalize hs[j] = b at ej vj
  have di : (hs.map vecD)[i]? = some (vecD a) := by rw [List.getElem?_map, ei]; rfl
  have dj : (hs.map vecD)[j]? = some (vecD b) := by rw [List.getElem?_map, ej]; rfl
  refine ev_lc (it_rng1 ?_)
  walk_at "pd"
  refine ⟨_, rfl, by rw [List.length_map]; omega, by rw [List.length_map]; omega, by rw [rngD_length, List.length_map]; omega, fun k acc => ∃ v : List Int, acc = v.map D.int ∧ v.length = k ∧ ∀ x ∈ v, PtC x, ⟨[], rfl, rfl, fun _ h => by cases h⟩, fun k d acc hd hI => ?_, fun acc hI => ?_⟩
  · obtain ⟨v, rfl, lv, hv⟩ := hI
    obtain ⟨hk, rfl⟩ := rngD_get hd
    have hk : k < bs.length := by
      rw [List.length_map] at hk
      omega
    have ka : k < a.length := by have := vi.1; omega
    have kb : k < b.length := by have := vj.1; omega
    have ks : k < sh.length := by have := hsh.1; omega
    have eb : bs[k]? = some bs[k] := List.getElem?_eq_getElem hk
    have ea : a[k]? = some a[k] := List.getElem?_eq_getElem ka
    have ec : b[k]? = some b[k] := List.getElem?_eq_getElem kb
    have es : sh[k]? = some sh[k] := List.getElem?_eq_getElem ks
    have hb2 := hb _ (List.getElem_mem hk)
    obtain ⟨m1, p1, q1, r1⟩ := vi.2 k _ _ eb ea
    obtain ⟨m2, p2, q2, r2⟩ := vj.2 k _ _ eb ec
    obtain ⟨m3, p3, q3, r3⟩ := hsh.2 k _ _ eb es
    have fa : (a.map D.int)[k]? = some (.int a[k]) := by rw [List.getElem?_map, ea]; rfl
    have fb : (b.map D.int)[k]? = some (.int b[k]) := by rw [List.getElem?_map, ec]; rfl
    have fs : (sh.map D.int)[k]? = some (.int sh[k]) := by rw [List.getElem?_map, es]; rfl
    refine ⟨[7], by simp, gd_name (et_yes ⟨fun _ => ?_, fun z => by cases z⟩)⟩
    walk_at "pd"
    refine rd_ixL (j := i) rfl di ?_
    walk_at "pd"
    refine rd_ixL (j := k) (by omega) fa ?_
    walk_at "pd"
    refine rd_ixL (j := j) rfl dj ?_
    walk_at "pd"
    refine rd_ixL (j := k) (by omega) fb ?_
    walk_at "pd"
    refine rd_ixL (j := k) (by omega) fs ?_
    walk_at "pd"
    refine ⟨v ++ [a[k] - b[k] + sh[k]], by rw [List.map_append]; rfl, by rw [List.length_append, lv]; rfl, fun x hx => ?_⟩
    rcases List.mem_append.mp hx with hx | hx
    · exact hv x hx
    · rw [List.mem_singleton.mp hx]
      exact ⟨bs[k], hb2.1, hb2.2, m1 - m2 + m3, by rw [Int.add_mul, Int.sub_mul, p1, p2, p3]; omega, by omega, by omega⟩
  · obtain ⟨v, rfl, lv, hv⟩ := hI
    rw [rngD_length] at lv
    exact hP _ (.inr ⟨v, rfl, by rw [lv, List.length_map]; omega, hv⟩)
def F__law_row : FD := fun ds P => ∃ (bs : List Int) (hs : List (List Int)) (sh : List Int) (i c : Nat), ds = [.st, vecD bs, .lst (hs.map vecD), vecD sh, .int i, .int c] ∧ OkB bs ∧ (∀ h ∈ hs, Vec bs 1 h) ∧ Vec bs 1 sh ∧ i < hs.length ∧ c ≤ hs.length ∧ hs.length ≤ 1000 ∧ ∀ r, RowP bs.length c r → P r
theorem len__law_row : ∀ ds P, F__law_row ds P → ds.length = 6 := by (intro ds P h; first | exact h | (obtain ⟨_, rfl, _⟩ := h; rfl) | (obtain ⟨_, _, rfl, _⟩ := h; rfl) | (obtain ⟨_, _, _, rfl, _⟩ := h; rfl) | (obtain ⟨_, _, _, _, rfl, _⟩ := h; rfl) | (obtain ⟨_, _, _, _, _, rfl, _⟩ := h; rfl) | (obtain ⟨_, _, _, _, _, _, rfl, _⟩ := h; rfl) | (obtain ⟨_, _, _, _, _, _, _, rfl, _⟩ := h; rfl) | (obtain ⟨_, _, _, _, _, _, _, _, rfl, _⟩ := h; rfl) | (obtain ⟨_, _, _, _, _, _, _, _, _, rfl, _⟩ := h; rfl) | (obtain ⟨_, _, _, _, _, _, _, _, _, _, rfl, _⟩ := h; rfl) | (obtain ⟨_, _, _, _, _, _, _, _, _, _, _, rfl, _⟩ := h; rfl) | (obtain ⟨_, _, _, _, _, _, _, _, _, _, _, _, rfl, _⟩ := h; rfl) | (obtain ⟨_, _, _, _, _, _, _, _, _, _, _, _, _, rfl, _⟩ := h; rfl) | (obtain ⟨_, _, _, _, _, _, _, _, _, _, _, _, _, rfl, _⟩ := h; rfl) | (obtain ⟨_, _, _, _, _, _, _, _, _, _, _, _, _, _, rfl, _⟩ := h; rfl) | (obtain ⟨_, _, _, _, _, _, _, _, _, _, _, _, _, _, _, rfl, _⟩ := h; rfl) | (obtain ⟨_, _, _, _, _, _, _, _, _, _, _, _, _, _, _, _, rfl, _⟩ := h; rfl) | (obtain ⟨_, _, _, _, _, _, _, _, _, _, _, _, _, _, _, _, _, rfl, _⟩ := h; rfl) | (obtain ⟨_, _, _, _, _, _, _, _, _, _, _, _, _, _, _, _, _, _, rfl, _⟩ := h; rfl) | (obtain ⟨_, _, _, _, _, _, _, _, _, _, _, _, _, _, _, _, _, _, _, rfl, _⟩ := h; rfl) | (obtain ⟨_, _, _, _, _, _, _, _, _, _, _, _, _, _, _, _, _, _, _, _, rfl, _⟩ := h; rfl) | (obtain ⟨_, _, _, _, _, _, _, _, _, _, _, _, _, _, _, _, _, _, _, _, _, rfl, _⟩ := h; rfl) | (obtain ⟨rfl, _⟩ := h; rfl))
theorem ok__law_row (T : Txt K mg) : FnOk Pg T.w0 K mg base CX0 4 T.D__law_row.f T.D__law_row.d ["state", "bottoms", "heights", "shift", "i", "columns"] ((spD K F__law_row)) := by
  have G__law_cell := ok__law_cell (Pg := Pg) (base := base) T
  refine T.D__law_row.F.ok (k := 3) sc__law_row (spD_len (len__law_row)) (fun cdv A outer s H vs Q E hr h => ?_)
  refine ⟨_, (pss_one (ps_ret (pe_lc (own := [("j", 6)]) rfl sc__law_row.nd (pi_range1 (by rfl) T.n_range (pa_cons (pv 5) pa_nil)) (blkOk_by (N := ["state", "bottoms", "heights", "shift", "i", "columns", "j"]) (sc := defScope s__law_row) (by decide +kernel)) (fun _ _ _ _ _ => (pg_name (i := 6) sc__law_row.nd rfl (by first | exact Or.inl rfl | exact Or.inr rfl))) (fun _ _ _ _ _ => pts_nil) (fun _ _ _ _ _ => (pe_call G__law_cell (hr.mono (by decide)) (by rfl) T.D__law_cell.g T.D__law_cell.F.kp T.D__law_cell.b .nil pass0 (pa_cons (pv 0) (pa_cons (pv 1) (pa_cons (pv 2) (pa_cons (pv 3) (pa_cons (pv 4) (pa_cons (pv 6) pa_nil))))))))))), ?_⟩
  try dsimp only [cxOf, Cx.blk, Cx.nox, Cx.wish]
  (refine body_of h fun W ds P eK f => ?_); subst eK
  obtain ⟨bs, hs, sh, i, c, rfl, ob, hh, hsh, hi, hc, h1000, hP⟩ := f
  walk_at "pd"
  refine ev_lcAll (CellP bs.length) (it_rng1 ?_)
  walk_at "pd"
  refine ⟨_, rfl, by omega, by omega, by rw [rngD_length]; omega, fun k d hd => ?_, fun l hl hG => ?_⟩
  · obtain ⟨hk, rfl⟩ := rngD_get hd
    have e : (0 : Int) + (k : Int) = ((k : Nat) : Int) := by omega
    rw [e]
    refine ⟨[6], by simp, gd_name ?_⟩
    walk_at "pd"
    exact ⟨bs, hs, sh, i, k, rfl, ob, hh, hsh, hi, by omega, fun c hc => hc⟩
  · rw [rngD_length] at hl
    exact hP _ ⟨l, rfl, by omega, hG⟩
def F__law_grids : FD := fun ds P => ∃ bs : List Int, ds = [.st, vecD bs] ∧ OkB bs ∧ ∀ gs : List D, 1 ≤ gs.length → gs.length ≤ 3 → (∀ g ∈ gs, GridP bs.length g) → P (.lst gs)
theorem len__law_grids : ∀ ds P, F__law_grids ds P → ds.length = 2 := by (intro ds P h; first | exact h | (obtain ⟨_, rfl, _⟩ := h; rfl) | (obtain ⟨_, _, rfl, _⟩ := h; rfl) | (obtain ⟨_, _, _, rfl, _⟩ := h; rfl) | (obtain ⟨_, _, _, _, rfl, _⟩ := h; rfl) | (obtain ⟨_, _, _, _, _, rfl, _⟩ := h; rfl) | (obtain ⟨_, _, _, _, _, _, rfl, _⟩ := h; rfl) | (obtain ⟨_, _, _, _, _, _, _, rfl, _⟩ := h; rfl) | (obtain ⟨_, _, _, _, _, _, _, _, rfl, _⟩ := h; rfl) | (obtain ⟨_, _, _, _, _, _, _, _, _, rfl, _⟩ := h; rfl) | (obtain ⟨_, _, _, _, _, _, _, _, _, _, rfl, _⟩ := h; rfl) | (obtain ⟨_, _, _, _, _, _, _, _, _, _, _, rfl, _⟩ := h; rfl) | (obtain ⟨_, _, _, _, _, _, _, _, _, _, _, _, rfl, _⟩ := h; rfl) | (obtain ⟨_, _, _, _, _, _, _, _, _, _, _, _, _, rfl, _⟩ := h; rfl) | (obtain ⟨_, _, _, _, _, _, _, _, _, _, _, _, _, rfl, _⟩ := h; rfl) | (obtain ⟨_, _, _, _, _, _, _, _, _, _, _, _, _, _, rfl, _⟩ := h; rfl) | (obtain ⟨_, _, _, _, _, _, _, _, _, _, _, _, _, _, _, rfl, _⟩ := h; rfl) | (obtain ⟨_, _, _, _, _, _, _, _, _, _, _, _, _, _, _, _, rfl, _⟩ := h; rfl) | (obtain ⟨_, _, _, _, _, _, _, _, _, _, _, _, _, _, _, _, _, rfl, _⟩ := h; rfl) | (obtain ⟨_, _, _, _, _, _, _, _, _, _, _, _, _, _, _, _, _, _, rfl, _⟩ := h; rfl) | (obtain ⟨_, _, _, _, _, _, _, _, _, _, _, _, _, _, _, _, _, _, _, rfl, _⟩ := h; rfl) | (obtain ⟨_, _, _, _, _, _, _, _, _, _, _, _, _, _, _, _, _, _, _, _, rfl, _⟩ := h; rfl) | (obtain ⟨_, _, _, _, _, _, _, _, _, _, _, _, _, _, _, _, _, _, _, _, _, rfl, _⟩ := h; rfl) | (obtain ⟨rfl, _⟩ := h; rfl))
theorem ok__law_grids (T : Txt K mg) : FnOk Pg T.w0 K mg base CX0 5 T.D__law_grids.f T.D__law_grids.d ["state", "bottoms"] ((spD K F__law_grids)) := by
  have G__law_pick := ok__law_pick (Pg := Pg) (base := base) T
  have G__law_row := ok__law_row (Pg := Pg) (base := base) T
  have G__law_vector := ok__law_vector (Pg := Pg) (base := base) T
  refine T.D__law_grids.F.ok (k := 4) sc__law_grids (spD_len (len__law_grids)) (fun cdv A outer s H vs Q E hr h => ?_)
  refine ⟨_, (pss_cons (ps_set (i := 2) sc__law_grids.nd rfl (by first | exact Or.inl rfl | exact Or.inr rfl) (pe_lc (own := [("place", 7)]) rfl sc__law_grids.nd (pi_range1 (by rfl) T.n_range (pa_cons pe_int pa_nil)) (blkOk_by (N := ["state", "bottoms", "heights", "size", "grids", "at", "shift", "place", "rows", "columns", "i"]) (sc := defScope s__law_grids) (by decide +kernel)) (fun _ _ _ _ _ => (pg_name (i := 7) sc__law_grids.nd rfl (by first | exact Or.inl rfl | exact Or.inr rfl))) (fun _ _ _ _ _ => pts_nil) (fun _ _ _ _ _ => (pe_call G__law_vector (hr.mono (by decide)) (by rfl) T.D__law_vector.g T.D__law_vector.F.kp T.D__law_vector.b .nil pass0 (pa_cons (pv 0) (pa_cons (pv 1) (pa_cons pe_int pa_nil)))))))
    (pss_cons (ps_set (i := 3) sc__law_grids.nd rfl (by first | exact Or.inl rfl | exact Or.inr rfl) (pe_op (op_plusK (K := K) rfl) pe_int (pe_call G__law_pick (hr.mono (by decide)) (by rfl) T.D__law_pick.g T.D__law_pick.F.kp T.D__law_pick.b .nil pass0 (pa_cons (pv 0) (pa_cons pe_int pa_nil)))))
    (pss_cons (ps_set (i := 4) sc__law_grids.nd rfl (by first | exact Or.inl rfl | exact Or.inr rfl) (pe_lst pa_nil))
    (pss_cons (ps_for PassesOwn.never rfl (pi_range1 (by rfl) T.n_range (pa_cons (pe_op (op_plusK (K := K) rfl) pe_int (pe_call G__law_pick (hr.mono (by decide)) (by rfl) T.D__law_pick.g T.D__law_pick.F.kp T.D__law_pick.b .nil pass0 (pa_cons (pv 0) (pa_cons pe_int pa_nil)))) pa_nil)) (pg_name (i := 5) sc__law_grids.nd rfl (by first | exact Or.inl rfl | exact Or.inr rfl))
      (pss_cons (ps_asg (pe_tup (pa_cons (pv 3) (pa_cons (pv 3) pa_nil))) (by exact (pg_tupK (K := K) (n := 2) rfl rfl (pgs_cons (pg_name (i := 8) sc__law_grids.nd rfl (by first | exact Or.inl rfl | exact Or.inr rfl)) (pgs_cons (pg_name (i := 9) sc__law_grids.nd rfl (by first | exact Or.inl rfl | exact Or.inr rfl)) pgs_nil)))))
    (pss_cons (ps_if (pt_cmpR (op_eqDK (K := K) rfl (hr_u hr)) (pe_call G__law_pick (hr.mono (by decide)) (by rfl) T.D__law_pick.g T.D__law_pick.F.kp T.D__law_pick.b .nil pass0 (pa_cons (pv 0) (pa_cons pe_int pa_nil))) pe_int (nomark _))
      (pss_one (ps_set (i := 8) sc__law_grids.nd rfl (by first | exact Or.inl rfl | exact Or.inr rfl) (pe_op (op_plusK (K := K) rfl) pe_int (pe_call G__law_pick (hr.mono (by decide)) (by rfl) T.D__law_pick.g T.D__law_pick.F.kp T.D__law_pick.b .nil pass0 (pa_cons (pv 0) (pa_cons pe_int pa_nil))))))
      pss_nil)
    (pss_cons (ps_if (pt_cmpR (op_eqDK (K := K) rfl (hr_u hr)) (pe_call G__law_pick (hr.mono (by decide)) (by rfl) T.D__law_pick.g T.D__law_pick.F.kp T.D__law_pick.b .nil pass0 (pa_cons (pv 0) (pa_cons pe_int pa_nil))) pe_int (nomark _))
      (pss_one (ps_set (i := 9) sc__law_grids.nd rfl (by first | exact Or.inl rfl | exact Or.inr rfl) (pe_op (op_plusK (K := K) rfl) pe_int (pe_call G__law_pick (hr.mono (by decide)) (by rfl) T.D__law_pick.g T.D__law_pick.F.kp T.D__law_pick.b .nil pass0 (pa_cons (pv 0) (pa_cons pe_int pa_nil))))))
      pss_nil)
    (pss_cons (ps_set (i := 6) sc__law_grids.nd rfl (by first | exact Or.inl rfl | exact Or.inr rfl) (pe_call G__law_vector (hr.mono (by decide)) (by rfl) T.D__law_vector.g T.D__law_vector.F.kp T.D__law_vector.b .nil pass0 (pa_cons (pv 0) (pa_cons (pv 1) (pa_cons (pe_call G__law_pick (hr.mono (by decide)) (by rfl) T.D__law_pick.g T.D__law_pick.F.kp T.D__law_pick.b .nil pass0 (pa_cons (pv 0) (pa_cons pe_int pa_nil))) pa_nil)))))
    (pss_one (ps_expr (pe_bm PySem.F.plainAttrs_list PySem.F.slot_list_append PySem.F.type_list_append mt_append (pv 4) (pa_cons (pe_lc (own := [("i", 10)]) rfl sc__law_grids.nd (pi_range1 (by rfl) T.n_range (pa_cons (pv 8) pa_nil)) (blkOk_by (N := ["state", "bottoms", "heights", "size", "grids", "at", "shift", "place", "rows", "columns", "i"]) (sc := defScope s__law_grids) (by decide +kernel)) (fun _ _ _ _ _ => (pg_name (i := 10) sc__law_grids.nd rfl (by first | exact Or.inl rfl | exact Or.inr rfl))) (fun _ _ _ _ _ => pts_nil) (fun _ _ _ _ _ => (pe_call G__law_row (hr.mono (by decide)) (by rfl) T.D__law_row.g T.D__law_row.F.kp T.D__law_row.b .nil pass0 (pa_cons (pv 0) (pa_cons (pv 1) (pa_cons (pv 2) (pa_cons (pv 6) (pa_cons (pv 10) (pa_cons (pv 9) pa_nil))))))))) pa_nil)))))))))
    (pss_one (ps_ret (pv 4))))))), ?_⟩
  try dsimp only [cxOf, Cx.blk, Cx.nox, Cx.wish]
  refine body_ofO h fun W ds P eK f => ?_
  subst eK
  obtain ⟨bs, rfl, ob, hP⟩ := f
  refine so_seq (so_lift ?_)
  walk_at "pd"
  refine ev_lcAll (fun y => ∃ v, y = vecD v ∧ Vec bs 1 v) (it_rng1 ?_)
  walk_at "pd"
  refine ⟨_, rfl, by decide, by decide, by rw [rngD_length]; decide, fun k d hd => ⟨[7], by simp, gd_name ?_⟩, fun l hl hG => ?_⟩
  · walk_at "pd"
    exact ⟨bs, 1, rfl, ob, by decide, by decide, fun v hv => ⟨v, rfl, hv⟩⟩
  obtain ⟨hs, rfl, hh⟩ := all_maps hG
  rw [List.length_map, rngD_length] at hl
  have hl : hs.length = 4 := hl
  refine so_seq (so_lift ?_)
  walk_at "pd"
  refine pick_lit (by decide +kernel) fun z z0 z1 => ?_
  walk_at "pd"
  refine so_seq (so_new ?_)
  walk_at "pd"
  refine fun p _ => ?_
  refine so_seq (so_for (it_rng1 ?_))
  walk_at "pd"
  refine pick_lit (by decide +kernel) fun m m0 m1 => ?_
  walk_at "pd"
  refine ⟨_, rfl, by omega, by omega, fun i ω δ => ∃ (gs : List D) (x5 x6 x7 x8 x9 x10 : Option D), gs.length = i ∧ (∀ g ∈ gs, GridP bs.length g) ∧ ω = [(p, gs)] ∧ δ = [some .st, some (vecD bs), some (.lst (hs.map vecD)), some (.int (1 + z)), some (.obj p), x5, x6, x7, x8, x9, x10], ⟨[], _, _, _, _, _, _, rfl, (fun _ h => by cases h), rfl, rfl⟩, fun i d ω δ hd hI => ?_, fun ω δ hI => ?_⟩
  · obtain ⟨gs, x5, x6, x7, x8, x9, x10, lg, hg, rfl, rfl⟩ := hI
    obtain ⟨hi, rfl⟩ := rngD_get hd
    refine ⟨_, gd_name ?_⟩
    refine so_seq (so_lift (sd_asgG (js := [8] ++ [9]) ?_))
    walk_at "pd"
    refine gd_tup2 (gd_name (gd_name ?_))
    refine so_cut (fun ω' δ' => ω' = [(p, gs)] ∧ ∃ r : Nat, 1 ≤ r ∧ r ≤ 3 ∧ δ' = [some .st, some (vecD bs), some (.lst (hs.map vecD)), some (.int (1 + z)), some (.obj p), some (.int (0 + (i : Int))), x6, x7, some (.int (r : Int)), some (.int (1 + z)), x10]) (so_lift ?_) fun ω' δ' e => ?_
    · refine sd_if ?_
      walk_at "pd"
      refine pick_lit (by decide +kernel) fun a a0 a1 => ?_
      walk_at "pd"
      refine ⟨fun _ => ?_, fun _ => ?_⟩
      · walk_at "pd"
        refine pick_lit (by decide +kernel) fun r r0 r1 => ?_
        walk_at "pd"
        refine ⟨rfl, (1 + r).toNat, by omega, by omega, ?_⟩
        rw [show (((1 + r).toNat : Nat) : Int) = 1 + r by omega]
        try rfl
      · walk_at "pd"
        refine ⟨rfl, (1 + z).toNat, by omega, by omega, ?_⟩
        rw [show (((1 + z).toNat : Nat) : Int) = 1 + z by omega]
        try rfl
    obtain ⟨rfl, r, r1, r3, rfl⟩ := e
    refine so_cut (fun ω' δ' => ω' = [(p, gs)] ∧ ∃ c : Nat, 1 ≤ c ∧ c ≤ 3 ∧ δ' = [some .st, some (vecD bs), some (.lst (hs.map vecD)), some (.int (1 + z)), some (.obj p), some (.int (0 + (i : Int))), x6, x7, some (.int (r : Int)), some (.int (c : Int)), x10]) (so_lift ?_) fun ω' δ' e => ?_
    · refine sd_if ?_
      walk_at "pd"
      refine pick_lit (by decide +kernel) fun a a0 a1 => ?_
      walk_at "pd"
      refine ⟨fun _ => ?_, fun _ => ?_⟩
      · walk_at "pd"
        refine pick_lit (by decide +kernel) fun r r0 r1 => ?_
        walk_at "pd"
        refine ⟨rfl, (1 + r).toNat, by omega, by omega, ?_⟩
        rw [show (((1 + r).toNat : Nat) : Int) = 1 + r by omega]
        try rfl
      · walk_at "pd"
        refine ⟨rfl, (1 + z).toNat, by omega, by omega, ?_⟩
        rw [show (((1 + z).toNat : Nat) : Int) = 1 + z by omega]
        try rfl
    obtain ⟨rfl, c, c1, c3, rfl⟩ := e
    refine so_seq (so_lift ?_)
    walk_at "pd"
    refine pick_lit (by decide +kernel) fun mo mo0 mo1 => ?_
    walk_at "pd"
    refine ⟨bs, mo, rfl, ob, mo0, by omega, fun sh hsh => ?_⟩
    have hsh : Vec bs 1 sh := ⟨hsh.1, fun k b x h1 h2 => by
      obtain ⟨m, e, a, b⟩ := hsh.2 k b x h1 h2
      exact ⟨m, e, by omega, by omega⟩⟩
    refine so_app (i := 4) rfl List.mem_cons_self (fun es m => ?_) ?_
    · rw [List.mem_singleton] at m
      cases m
      omega
    walk_at "pd"
    refine ev_lcAll (RowP bs.length c) (it_rng1 ?_)
    walk_at "pd"
    refine ⟨_, rfl, by omega, by omega, by rw [rngD_length]; omega, fun k d hd => ?_, fun l hl2 hG => ?_⟩
    · obtain ⟨hk, rfl⟩ := rngD_get hd
      have e : (0 : Int) + (k : Int) = ((k : Nat) : Int) := by omega
      rw [e]
      refine ⟨[10], by simp, gd_name ?_⟩
      walk_at "pd"
      exact ⟨bs, hs, sh, k, c, rfl, ob, hh, hsh, by omega, by omega, by omega, fun r hr => hr⟩
    · rw [rngD_length] at hl2
      walk_at "pd"
      refine ⟨_, rfl, gs ++ [.lst l], _, _, _, _, _, _, by rw [List.length_append, lg]; rfl, fun g hgm => ?_, by simp [putO], rfl⟩
      rcases List.mem_append.mp hgm with hgm | hgm
      · exact hg g hgm
      · rw [List.mem_singleton.mp hgm]
        exact ⟨l, c, rfl, by omega, by omega, c1, c3, hG⟩
  · obtain ⟨gs, x5, x6, x7, x8, x9, x10, lg, hg, rfl, rfl⟩ := hI
    rw [rngD_length] at lg
    exact so_retO (i := 4) rfl List.mem_cons_self (hP gs (by omega) (by omega) hg)
theorem cut4 (a b c d : D) (xs : List D) : cutD (a :: b :: c :: d :: xs) (some 4) none = xs := cutD_hi (a :: b :: c :: d :: xs) 4
def F__law_shape : FD := fun ds P => ∃ (shs : List Sh) (k : Str) (l : List Int), ds = [stD k l, .lst (shs.map shD)] ∧ kindLen.lookup k = some ((l.length : Int) + 1) ∧ (srcs k l).all (okSrc shs.length) = true ∧ P (optSh (lawFit k l (shAt shs (l.getD 0 0)) (shAt shs (l.getD 1 0))))
theorem len__law_shape : ∀ ds P, F__law_shape ds P → ds.length = 2 := by (intro ds P h; first | exact h | (obtain ⟨_, rfl, _⟩ := h; rfl) | (obtain ⟨_, _, rfl, _⟩ := h; rfl) | (obtain ⟨_, _, _, rfl, _⟩ := h; rfl) | (obtain ⟨_, _, _, _, rfl, _⟩ := h; rfl) | (obtain ⟨_, _, _, _, _, rfl, _⟩ := h; rfl) | (obtain ⟨_, _, _, _, _, _, rfl, _⟩ := h; rfl) | (obtain ⟨_, _, _, _, _, _, _, rfl, _⟩ := h; rfl) | (obtain ⟨_, _, _, _, _, _, _, _, rfl, _⟩ := h; rfl) | (obtain ⟨_, _, _, _, _, _, _, _, _, rfl, _⟩ := h; rfl) | (obtain ⟨_, _, _, _, _, _, _, _, _, _, rfl, _⟩ := h; rfl) | (obtain ⟨_, _, _, _, _, _, _, _, _, _, _, rfl, _⟩ := h; rfl) | (obtain ⟨_, _, _, _, _, _, _, _, _, _, _, _, rfl, _⟩ := h; rfl) | (obtain ⟨_, _, _, _, _, _, _, _, _, _, _, _, _, rfl, _⟩ := h; rfl) | (obtain ⟨_, _, _, _, _, _, _, _, _, _, _, _, _, rfl, _⟩ := h; rfl) | (obtain ⟨_, _, _, _, _, _, _, _, _, _, _, _, _, _, rfl, _⟩ := h; rfl) | (obtain ⟨_, _, _, _, _, _, _, _, _, _, _, _, _, _, _, rfl, _⟩ := h; rfl) | (obtain ⟨_, _, _, _, _, _, _, _, _, _, _, _, _, _, _, _, rfl, _⟩ := h; rfl) | (obtain ⟨_, _, _, _, _, _, _, _, _, _, _, _, _, _, _, _, _, rfl, _⟩ := h; rfl) | (obtain ⟨_, _, _, _, _, _, _, _, _, _, _, _, _, _, _, _, _, _, rfl, _⟩ := h; rfl) | (obtain ⟨_, _, _, _, _, _, _, _, _, _, _, _, _, _, _, _, _, _, _, rfl, _⟩ := h; rfl) | (obtain ⟨_, _, _, _, _, _, _, _, _, _, _, _, _, _, _, _, _, _, _, _, rfl, _⟩ := h; rfl) | (obtain ⟨_, _, _, _, _, _, _, _, _, _, _, _, _, _, _, _, _, _, _, _, _, rfl, _⟩ := h; rfl) | (obtain ⟨rfl, _⟩ := h; rfl))
theorem ok__law_shape (T : Txt K mg) : FnOk Pg T.w0 K mg base CX0 1 T.D__law_shape.f T.D__law_shape.d ["step", "shapes"] ((spD K F__law_shape)) := by
  refine T.D__law_shape.F.ok (k := 0) sc__law_shape (spD_len (len__law_shape)) (fun cdv A outer s H vs Q E hr h => ?_)
  refine ⟨_, (pss_cons (ps_asg (pe_ix (ix_seqK (K := K) rfl) (pv 1) (pe_ix (ix_seqK (K := K) rfl) (pv 0) pe_int (fun _ _ => rfl)) (fun _ _ => rfl)) (by exact (pg_tupK (K := K) (n := 2) rfl rfl (pgs_cons (pg_name (i := 3) sc__law_shape.nd rfl (by first | exact Or.inl rfl | exact Or.inr rfl)) (pgs_cons (pg_name (i := 4) sc__law_shape.nd rfl (by first | exact Or.inl rfl | exact Or.inr rfl)) pgs_nil)))))
    (pss_cons (ps_if (pt_cmpR (op_eqDK (K := K) rfl (hr_u hr)) (pe_ix (ix_seqK (K := K) rfl) (pv 0) pe_int (fun _ _ => rfl)) pe_str (nomark _))
      (pss_one (ps_ret (pe_tup (pa_cons (pv 4) (pa_cons (pv 3) pa_nil)))))
      pss_nil)
    (pss_cons (ps_if (pt_cmpR (op_eqDK (K := K) rfl (hr_u hr)) (pe_ix (ix_seqK (K := K) rfl) (pv 0) pe_int (fun _ _ => rfl)) pe_str (nomark _))
      (pss_one (ps_ret (pe_ifExp (pt_cmpR (op_eqDK (K := K) rfl (hr_u hr)) (pv 3) (pv 4) (nomark _)) (pe_tup (pa_cons (pv 3) (pa_cons (pv 4) pa_nil))) pe_non)))
      pss_nil)
    (pss_cons (ps_if (pt_cmpR (op_eqDK (K := K) rfl (hr_u hr)) (pe_ix (ix_seqK (K := K) rfl) (pv 0) pe_int (fun _ _ => rfl)) pe_str (nomark _))
      (pss_one (ps_ret (pe_slice (sl_tupAK (K := K) rfl) (pv 0) (po_some pe_int) po_none)))
      pss_nil)
    (pss_cons (ps_set (i := 2) sc__law_shape.nd rfl (by first | exact Or.inl rfl | exact Or.inr rfl) (pe_ix (ix_seqK (K := K) rfl) (pv 1) (pe_ix (ix_seqK (K := K) rfl) (pv 0) pe_int (fun _ _ => rfl)) (fun _ _ => rfl)))
    (pss_cons (ps_if (pt_cmpR (op_eqDK (K := K) rfl (hr_u hr)) (pe_ix (ix_seqK (K := K) rfl) (pv 0) pe_int (fun _ _ => rfl)) pe_str (nomark _))
      (pss_one (ps_ret (pe_ifExp (pt_cmpR (op_eqDK (K := K) rfl (hr_u hr)) (pe_tup (pa_cons (pv 3) (pa_cons (pv 4) pa_nil))) (pv 2) (nomark _)) (pe_tup (pa_cons (pv 3) (pa_cons (pv 4) pa_nil))) pe_non)))
      pss_nil)
    (pss_cons (ps_if (pt_cmpR (op_eqDK (K := K) rfl (hr_u hr)) (pe_ix (ix_seqK (K := K) rfl) (pv 0) pe_int (fun _ _ => rfl)) pe_str (nomark _))
      (pss_one (ps_ret (pe_ifExp (pt_cmpR (op_eqDK (K := K) rfl (hr_u hr)) (pv 4) (pe_ix (ix_seqK (K := K) rfl) (pv 2) pe_int (fun _ _ => rfl)) (nomark _)) (pe_tup (pa_cons (pv 3) (pa_cons (pe_ix (ix_seqK (K := K) rfl) (pv 2) pe_int (fun _ _ => rfl)) pa_nil))) pe_non)))
      pss_nil)
    (pss_cons (ps_if (pt_cmpR (op_eqDK (K := K) rfl (hr_u hr)) (pe_ix (ix_seqK (K := K) rfl) (pv 0) pe_int (fun _ _ => rfl)) pe_str (nomark _))
      (pss_one (ps_ret (pe_ifExp (pt_cmpR (op_eqDK (K := K) rfl (hr_u hr)) (pv 3) (pe_ix (ix_seqK (K := K) rfl) (pv 2) pe_int (fun _ _ => rfl)) (nomark _)) (pe_tup (pa_cons (pv 3) (pa_cons (pe_op (op_plusK (K := K) rfl) (pv 4) (pe_ix (ix_seqK (K := K) rfl) (pv 2) pe_int (fun _ _ => rfl))) pa_nil))) pe_non)))
      pss_nil)
    (pss_one (ps_ret (pe_ifExp (pt_cmpR (op_eqDK (K := K) rfl (hr_u hr)) (pv 4) (pe_ix (ix_seqK (K := K) rfl) (pv 2) pe_int (fun _ _ => rfl)) (nomark _)) (pe_tup (pa_cons (pe_op (op_plusK (K := K) rfl) (pv 3) (pe_ix (ix_seqK (K := K) rfl) (pv 2) pe_int (fun _ _ => rfl))) (pa_cons (pv 4) pa_nil))) pe_non))))))))))), ?_⟩
  try dsimp only [cxOf, Cx.blk, Cx.nox, Cx.wish]
  (refine body_of h fun W ds P eK f => ?_); subst eK
  obtain ⟨shs, k, l, rfl, hk, ha, hP⟩ := f
  have kf := kind_fine hk
  rcases kind_len hk with ⟨h3, a, b, rfl⟩ | ⟨h3, ⟨a, rfl⟩ | ⟨rfl, g, i, j, r, c, rfl⟩⟩
  · have ha1 := src_ok (List.all_eq_true.mp ha a (by unfold srcs; rw [if_pos h3]; simp))
    have hb1 := src_ok (List.all_eq_true.mp ha b (by unfold srcs; rw [if_pos h3]; simp))
    obtain ⟨ga, _⟩ := shAt_get ha1.1 ha1.2
    obtain ⟨gb, _⟩ := shAt_get hb1.1 hb1.2
    have hP : P (optSh (lawFit k [a, b] (shAt shs a) (shAt shs b))) := hP
    generalize shAt shs a = sa at ga hP
    generalize shAt shs b = sb at gb hP
    obtain ⟨p1, p2⟩ := sa
    obtain ⟨q1, q2⟩ := sb
    have n1 : ¬ k = "turned" := fun e => by subst e; cases h3
    have n2 : ¬ k = "star" := fun e => by subst e; cases h3
    have n3 : ¬ k = "piece" := fun e => by subst e; cases h3
    unfold lawFit fitD twoD at hP
    rw [if_neg n3, if_neg n1, if_neg n2, if_neg n3] at hP
    unfold stD
    simp only [List.map_cons, List.map_nil]
    walk_at "pd"
    refine sd_asgG (js := [3] ++ [4]) ?_
    walk_at "pd"
    refine rd_ixL (j := a.toNat) (by omega) ga ?_
    refine gd_tup2 (gd_name (gd_name ?_))
    walk_at "pd"
    refine bf (decide_eq_false n1) ?_
    walk_at "pd"
    refine bf (decide_eq_false n2) ?_
    walk_at "pd"
    refine bf (decide_eq_false n3) ?_
    walk_at "pd"
    refine rd_ixT (j := 2) rfl rfl ?_
    walk_at "pd"
    refine rd_ixL (j := b.toNat) (by omega) gb ?_
    unfold shD
    walk_at "pd"
    refine ⟨fun z => ?_, fun z => ?_⟩
    · rw [if_pos (of_decide_eq_true z)] at hP
      walk_at "pd"
      refine ⟨fun z => ?_, fun z => ?_⟩
      · rw [if_pos (of_decide_eq_true z)] at hP
        walk_at "pd"
        exact hP
      · rw [if_neg (of_decide_eq_false z)] at hP
        walk_at "pd"
        exact hP
    rw [if_neg (of_decide_eq_false z)] at hP
    walk_at "pd"
    refine ⟨fun z => ?_, fun z => ?_⟩
    · rw [if_pos (of_decide_eq_true z)] at hP
      walk_at "pd"
      refine ⟨fun z => ?_, fun z => ?_⟩
      · rw [if_pos (of_decide_eq_true z)] at hP
        walk_at "pd"
        exact hP
      · rw [if_neg (of_decide_eq_false z)] at hP
        walk_at "pd"
        exact hP
    rw [if_neg (of_decide_eq_false z)] at hP
    walk_at "pd"
    refine ⟨fun z => ?_, fun z => ?_⟩
    · rw [if_pos (of_decide_eq_true z)] at hP
      walk_at "pd"
      refine ⟨fun z => ?_, fun z => ?_⟩
      · rw [if_pos (of_decide_eq_true z)] at hP
        walk_at "pd"
        exact hP
      · rw [if_neg (of_decide_eq_false z)] at hP
        walk_at "pd"
        exact hP
    rw [if_neg (of_decide_eq_false z)] at hP
    walk_at "pd"
    refine ⟨fun z => ?_, fun z => ?_⟩
    · rw [if_pos (of_decide_eq_true z)] at hP
      walk_at "pd"
      exact hP
    · rw [if_neg (of_decide_eq_false z)] at hP
      walk_at "pd"
      exact hP
  · have ha1 := src_ok (List.all_eq_true.mp ha a (by unfold srcs; rw [if_neg h3]; simp))
    obtain ⟨ga, _⟩ := shAt_get ha1.1 ha1.2
    have hP : P (optSh (lawFit k [a] (shAt shs a) (shAt shs (([a] : List Int).getD 1 0)))) := hP
    generalize shAt shs a = sa at ga hP
    obtain ⟨p1, p2⟩ := sa
    have n3 : ¬ k = "piece" := fun e => by
      subst e
      cases hk
    have kk : k = "turned" ∨ k = "star" := by
      rcases kind_cases hk with ⟨rfl, h⟩ | ⟨rfl, h⟩ | ⟨rfl, h⟩ | ⟨rfl, h⟩ | ⟨rfl, h⟩ | ⟨rfl, h⟩ | ⟨rfl, h⟩ <;> first | exact .inl rfl | exact .inr rfl | cases h
    unfold lawFit fitD at hP
    rw [if_neg n3] at hP
    unfold stD
    simp only [List.map_cons, List.map_nil]
    walk_at "pd"
    refine sd_asgG (js := [3] ++ [4]) ?_
    walk_at "pd"
    refine rd_ixL (j := a.toNat) (by omega) ga ?_
    refine gd_tup2 (gd_name (gd_name ?_))
    rcases kk with rfl | rfl
    · rw [if_pos rfl] at hP
      walk_at "pd"
      exact hP
    · rw [if_neg (by decide), if_pos rfl] at hP
      walk_at "pd"
      refine ⟨fun z => ?_, fun z => ?_⟩
      · rw [if_pos (of_decide_eq_true z)] at hP
        walk_at "pd"
        exact hP
      · rw [if_neg (of_decide_eq_false z)] at hP
        walk_at "pd"
        exact hP
  · have ha1 := src_ok (List.all_eq_true.mp ha g (by unfold srcs; rw [if_neg h3]; simp))
    obtain ⟨ga, _⟩ := shAt_get ha1.1 ha1.2
    have hP : P (shD (r, c)) := hP
    generalize shAt shs g = sa at ga
    obtain ⟨p1, p2⟩ := sa
    unfold stD
    simp only [List.map_cons, List.map_nil]
    walk_at "pd"
    refine sd_asgG (js := [3] ++ [4]) ?_
    walk_at "pd"
    refine rd_ixL (j := g.toNat) (by omega) ga ?_
    refine gd_tup2 (gd_name (gd_name ?_))
    walk_at "pd"
    refine ⟨_, rfl, ?_⟩
    walk_at "pd"
    refine ⟨_, rfl, ?_⟩
    walk_at "pd"
    rw [cut4]
    exact hP
def noStar (e : D) : Prop := ∃ k l, e = stD k l ∧ k ≠ "star"
def F__law_step : FD := fun ds P => ∃ (shs : List Sh) (w : Str) (n : Int), ds = [.st, .str w, .lst (shs.map shD)] ∧ kindLen.lookup w = some n ∧ 1 ≤ shs.length ∧ shs.length ≤ 20 ∧ (∀ p ∈ shs, sm4 p) ∧ ∀ e, GoodSt shs e → (w ≠ "star" → noStar e) → P e
theorem len__law_step : ∀ ds P, F__law_step ds P → ds.length = 3 := by (intro ds P h; first | exact h | (obtain ⟨_, rfl, _⟩ := h; rfl) | (obtain ⟨_, _, rfl, _⟩ := h; rfl) | (obtain ⟨_, _, _, rfl, _⟩ := h; rfl) | (obtain ⟨_, _, _, _, rfl, _⟩ := h; rfl) | (obtain ⟨_, _, _, _, _, rfl, _⟩ := h; rfl) | (obtain ⟨_, _, _, _, _, _, rfl, _⟩ := h; rfl) | (obtain ⟨_, _, _, _, _, _, _, rfl, _⟩ := h; rfl) | (obtain ⟨_, _, _, _, _, _, _, _, rfl, _⟩ := h; rfl) | (obtain ⟨_, _, _, _, _, _, _, _, _, rfl, _⟩ := h; rfl) | (obtain ⟨_, _, _, _, _, _, _, _, _, _, rfl, _⟩ := h; rfl) | (obtain ⟨_, _, _, _, _, _, _, _, _, _, _, rfl, _⟩ := h; rfl) | (obtain ⟨_, _, _, _, _, _, _, _, _, _, _, _, rfl, _⟩ := h; rfl) | (obtain ⟨_, _, _, _, _, _, _, _, _, _, _, _, _, rfl, _⟩ := h; rfl) | (obtain ⟨_, _, _, _, _, _, _, _, _, _, _, _, _, rfl, _⟩ := h; rfl) | (obtain ⟨_, _, _, _, _, _, _, _, _, _, _, _, _, _, rfl, _⟩ := h; rfl) | (obtain ⟨_, _, _, _, _, _, _, _, _, _, _, _, _, _, _, rfl, _⟩ := h; rfl) | (obtain ⟨_, _, _, _, _, _, _, _, _, _, _, _, _, _, _, _, rfl, _⟩ := h; rfl) | (obtain ⟨_, _, _, _, _, _, _, _, _, _, _, _, _, _, _, _, _, rfl, _⟩ := h; rfl) | (obtain ⟨_, _, _, _, _, _, _, _, _, _, _, _, _, _, _, _, _, _, rfl, _⟩ := h; rfl) | (obtain ⟨_, _, _, _, _, _, _, _, _, _, _, _, _, _, _, _, _, _, _, rfl, _⟩ := h; rfl) | (obtain ⟨_, _, _, _, _, _, _, _, _, _, _, _, _, _, _, _, _, _, _, _, rfl, _⟩ := h; rfl) | (obtain ⟨_, _, _, _, _, _, _, _, _, _, _, _, _, _, _, _, _, _, _, _, _, rfl, _⟩ := h; rfl) | (obtain ⟨rfl, _⟩ := h; rfl))
theorem ok__law_step (T : Txt K mg) : FnOk Pg T.w0 K mg base CX0 2 T.D__law_step.f T.D__law_step.d ["state", "word", "shapes"] ((spD K F__law_step)) := by
  have G__law_pick := ok__law_pick (Pg := Pg) (base := base) T
  have G__law_shape := ok__law_shape (Pg := Pg) (base := base) T
  refine T.D__law_step.F.ok (k := 1) sc__law_step (spD_len (len__law_step)) (fun cdv A outer s H vs Q E hr h => ?_)
  refine ⟨_, (pss_cons (ps_set (i := 3) sc__law_step.nd rfl (by first | exact Or.inl rfl | exact Or.inr rfl) (pe_call G__law_pick (hr.mono (by decide)) (by rfl) T.D__law_pick.g T.D__law_pick.F.kp T.D__law_pick.b .nil pass0 (pa_cons (pv 0) (pa_cons (pe_callB (call_lenK (K := K) rfl) (by rfl) T.n_len (by decide +kernel) (pa_cons (pv 2) pa_nil)) pa_nil))))
    (pss_cons (ps_asg (pe_ix (ix_seqK (K := K) rfl) (pv 2) (pv 3) (fun _ _ => rfl)) (by exact (pg_tupK (K := K) (n := 2) rfl rfl (pgs_cons (pg_name (i := 6) sc__law_step.nd rfl (by first | exact Or.inl rfl | exact Or.inr rfl)) (pgs_cons (pg_name (i := 7) sc__law_step.nd rfl (by first | exact Or.inl rfl | exact Or.inr rfl)) pgs_nil)))))
    (pss_cons (ps_if (pt_cmpR (op_eqDK (K := K) rfl (hr_u hr)) (pv 1) pe_str (nomark _))
      (pss_cons (ps_par (i := 9) (j := 10) (by rfl) sc__law_step.nd rfl rfl (by decide) rfl rfl (pa_cons (pe_call G__law_pick (hr.mono (by decide)) (by rfl) T.D__law_pick.g T.D__law_pick.F.kp T.D__law_pick.b .nil pass0 (pa_cons (pv 0) (pa_cons (pv 6) pa_nil))) (pa_cons (pe_call G__law_pick (hr.mono (by decide)) (by rfl) T.D__law_pick.g T.D__law_pick.F.kp T.D__law_pick.b .nil pass0 (pa_cons (pv 0) (pa_cons (pv 7) pa_nil))) pa_nil)) (by rfl))
    (pss_one (ps_ret (pe_tup (pa_cons (pv 1) (pa_cons (pv 3) (pa_cons (pv 9) (pa_cons (pv 10) (pa_cons (pe_op (op_plusK (K := K) rfl) pe_int (pe_call G__law_pick (hr.mono (by decide)) (by rfl) T.D__law_pick.g T.D__law_pick.F.kp T.D__law_pick.b .nil pass0 (pa_cons (pv 0) (pa_cons (pe_op op_sub (pv 6) (pv 9)) pa_nil)))) (pa_cons (pe_op (op_plusK (K := K) rfl) pe_int (pe_call G__law_pick (hr.mono (by decide)) (by rfl) T.D__law_pick.g T.D__law_pick.F.kp T.D__law_pick.b .nil pass0 (pa_cons (pv 0) (pa_cons (pe_op op_sub (pv 7) (pv 10)) pa_nil)))) pa_nil))))))))))
      pss_nil)
    (pss_cons (ps_if (pt_cmpR (op_eqDK (K := K) rfl (hr_u hr)) (pv 1) pe_str (nomark _))
      (pss_one (ps_ret (pe_tup (pa_cons (pv 1) (pa_cons (pv 3) pa_nil)))))
      pss_nil)
    (pss_cons (ps_set (i := 4) sc__law_step.nd rfl (by first | exact Or.inl rfl | exact Or.inr rfl) (pe_lst pa_nil))
    (pss_cons (ps_for PassesOwn.never rfl (pi_range1 (by rfl) T.n_range (pa_cons (pe_callB (call_lenK (K := K) rfl) (by rfl) T.n_len (by decide +kernel) (pa_cons (pv 2) pa_nil)) pa_nil)) (pg_name (i := 5) sc__law_step.nd rfl (by first | exact Or.inl rfl | exact Or.inr rfl))
      (pss_one (ps_for PassesOwn.never rfl (pi_range1 (by rfl) T.n_range (pa_cons (pe_callB (call_lenK (K := K) rfl) (by rfl) T.n_len (by decide +kernel) (pa_cons (pv 2) pa_nil)) pa_nil)) (pg_name (i := 8) sc__law_step.nd rfl (by first | exact Or.inl rfl | exact Or.inr rfl))
      (pss_cons (ps_set (i := 11) sc__law_step.nd rfl (by first | exact Or.inl rfl | exact Or.inr rfl) (pe_ifExp (pt_cmpR (op_eqDK (K := K) rfl (hr_u hr)) (pv 1) pe_str (nomark _)) (pe_tup (pa_cons (pv 1) (pa_cons (pv 5) pa_nil))) (pe_tup (pa_cons (pv 1) (pa_cons (pv 5) (pa_cons (pv 8) pa_nil))))))
    (pss_cons (ps_set (i := 12) sc__law_step.nd rfl (by first | exact Or.inl rfl | exact Or.inr rfl) (pe_call G__law_shape (hr.mono (by decide)) (by rfl) T.D__law_shape.g T.D__law_shape.F.kp T.D__law_shape.b .nil pass0 (pa_cons (pv 11) (pa_cons (pv 2) pa_nil))))
    (pss_one (ps_if (PW.pt (pw_and (pt_cmpR op_notN (pv 12) pe_non (nomark _)) (pw_and (pt_cmpR op_le (pe_callB (call_maxTK (K := K) rfl rfl (hr_u hr)) (by rfl) T.n_max (by decide +kernel) (pa_cons (pv 12) pa_nil)) pe_int (nomark _)) (pw_and1 (PW.pt (pw_or (pt_cmpR (op_neDK (K := K) rfl (hr_u hr)) (pv 1) pe_str (nomark _)) (pw_or1 (pt_cmpR (op_eqDK (K := K) rfl (hr_u hr)) (pv 8) pe_int (nomark _)))))))))
      (pss_one (ps_expr (pe_bm PySem.F.plainAttrs_list PySem.F.slot_list_append PySem.F.type_list_append mt_append (pv 4) (pa_cons (pv 11) pa_nil))))
      pss_nil)))))))
    (pss_one (ps_ret (pe_ifExp (pt_cmpR op_gt (pe_callB (call_lenK (K := K) rfl) (by rfl) T.n_len (by decide +kernel) (pa_cons (pv 4) pa_nil)) pe_int (nomark _)) (pe_ix (ix_seqK (K := K) rfl) (pv 4) (pe_call G__law_pick (hr.mono (by decide)) (by rfl) T.D__law_pick.g T.D__law_pick.F.kp T.D__law_pick.b .nil pass0 (pa_cons (pv 0) (pa_cons (pe_callB (call_lenK (K := K) rfl) (by rfl) T.n_len (by decide +kernel) (pa_cons (pv 4) pa_nil)) pa_nil))) (fun _ _ => rfl)) (pe_tup (pa_cons pe_str (pa_cons (pv 3) pa_nil)))))))))))), ?_⟩
  try dsimp only [cxOf, Cx.blk, Cx.nox, Cx.wish]
  refine body_ofO h fun W ds P eK f => ?_
  subst eK
  obtain ⟨shs, w, n, rfl, hk, l1, l20, ok, hP⟩ := f
  have kf := kind_fine hk
  have okk : ∀ p ∈ shs, okSh p := fun p hp => sm4_ok (ok p hp)
  refine so_seq (so_lift ?_)
  walk_at "pd"
  rw [List.length_map]
  refine pick_small (by omega) (by omega) fun g g0 g1 => ?_
  obtain ⟨ga, gm⟩ := shAt_get g0 g1
  have gok := ok _ gm
  have turn : P (stD "turned" [g]) := hP _ ⟨_, _, _, rfl, rfl, made_turned g0 g1 okk, by unfold sm4 at gok ⊢; simp only; omega, fun i hi => by
    rw [List.mem_singleton.mp hi]
    exact ⟨g0, by omega⟩⟩ fun _ => ⟨_, _, rfl, by decide⟩
  have pc : ∀ i j r c : Int, 0 ≤ i → i < (shAt shs g).1 → 0 ≤ j → j < (shAt shs g).2 → 0 ≤ r → r < (shAt shs g).1 - i → 0 ≤ c → c < (shAt shs g).2 - j → P (stD "piece" [g, i, j, 1 + r, 1 + c]) := fun i j r c i0 i1 j0 j1 r0 r1 c0 c1 => by
    unfold sm4 at gok
    refine hP _ ⟨_, _, _, rfl, rfl, made_piece g0 g1 i0 j0 (by omega) (by omega) (by omega) (by omega) (by omega) (by omega), by unfold sm4; simp only; omega, fun v hv => ?_⟩ fun _ => ⟨_, _, rfl, by decide⟩
    simp only [List.mem_cons, List.not_mem_nil, or_false] at hv
    rcases hv with rfl | rfl | rfl | rfl | rfl <;> omega
  generalize shAt shs g = sg at ga gok pc
  obtain ⟨a, b⟩ := sg
  unfold sm4 at gok
  have gok : 1 ≤ a ∧ a ≤ 4 ∧ 1 ≤ b ∧ b ≤ 4 := gok
  refine so_seq (so_lift (sd_asgG (js := [6] ++ [7]) ?_))
  walk_at "pd"
  refine rd_ixL (j := g.toNat) (by omega) ga ?_
  refine gd_tup2 (gd_name (gd_name ?_))
  refine so_cut (fun ω' δ' => w ≠ "piece" ∧ ω' = [] ∧ δ' = [some .st, some (.str w), some (.lst (shs.map shD)), some (.int g), none, none, some (.int a), some (.int b), none, none, none, none, none]) (so_lift ?_) fun ω' δ' e => ?_
  · refine sd_if ?_
    walk_at "pd"
    refine ⟨fun z => ?_, fun z => ?_⟩
    · have z := of_decide_eq_true z
      subst z
      walk_at "pd"
      refine pick_small (by omega) (by omega) fun i i0 i1 => ?_
      walk_at "pd"
      refine pick_small (by omega) (by omega) fun j j0 j1 => ?_
      walk_at "pd"
      refine ⟨_, _, rfl, ?_⟩
      walk_at "pd"
      refine pick_small (by omega) (by omega) fun r r0 r1 => ?_
      walk_at "pd"
      refine pick_small (by omega) (by omega) fun c c0 c1 => ?_
      walk_at "pd"
      exact pc i j r c i0 i1 j0 j1 r0 r1 c0 c1
    · exact sd_next ⟨of_decide_eq_false z, rfl, rfl⟩
  obtain ⟨n1, rfl, rfl⟩ := e
  refine so_cut (fun ω' δ' => w ≠ "turned" ∧ ω' = [] ∧ δ' = [some .st, some (.str w), some (.lst (shs.map shD)), some (.int g), none, none, some (.int a), some (.int b), none, none, none, none, none]) (so_lift ?_) fun ω' δ' e => ?_
  · refine sd_if ?_
    walk_at "pd"
    refine ⟨fun z => ?_, fun z => ?_⟩
    · have z := of_decide_eq_true z
      subst z
      walk_at "pd"
      exact turn
    · exact sd_next ⟨of_decide_eq_false z, rfl, rfl⟩
  obtain ⟨n2, rfl, rfl⟩ := e
  refine so_seq (so_new ?_)
  walk_at "pd"
  refine fun p _ => ?_
  refine so_seq (so_for (it_rng1 ?_))
  walk_at "pd"
  rw [List.length_map]
  refine ⟨_, rfl, by omega, by omega, fun i ω δ => ∃ (fs : List D) (x5 x8 x9 x10 x11 x12 : Option D), fs.length ≤ i * 20 ∧ (∀ e ∈ fs, GoodSt shs e ∧ (w ≠ "star" → noStar e)) ∧ ω = [(p, fs)] ∧ δ = [some .st, some (.str w), some (.lst (shs.map shD)), some (.int g), some (.obj p), x5, some (.int a), some (.int b), x8, x9, x10, x11, x12], ⟨[], _, _, _, _, _, _, Nat.zero_le _, (fun _ h => by cases h), rfl, rfl⟩, fun i d ω δ hd hI => ?_, fun ω δ hI => ?_⟩
  · obtain ⟨fs, x5, x8, x9, x10, x11, x12, lf, hf, rfl, rfl⟩ := hI
    obtain ⟨hi, rfl⟩ := rngD_get hd
    refine ⟨_, gd_name ?_⟩
    refine so_for (it_rng1 ?_)
    walk_at "pd"
    rw [List.length_map]
    refine ⟨_, rfl, by omega, by omega, fun j ω δ => ∃ (fs : List D) (x8 x9 x10 x11 x12 : Option D), fs.length ≤ i * 20 + j ∧ (∀ e ∈ fs, GoodSt shs e ∧ (w ≠ "star" → noStar e)) ∧ ω = [(p, fs)] ∧ δ = [some .st, some (.str w), some (.lst (shs.map shD)), some (.int g), some (.obj p), some (.int (0 + (i : Int))), some (.int a), some (.int b), x8, x9, x10, x11, x12], ⟨fs, _, _, _, _, _, lf, hf, rfl, rfl⟩, fun j d ω δ hd hI => ?_, fun ω δ hI => ?_⟩
    · obtain ⟨fs, x8, x9, x10, x11, x12, lf, hf, rfl, rfl⟩ := hI
      obtain ⟨hj, rfl⟩ := rngD_get hd
      have i0 : (0 : Int) ≤ 0 + (i : Int) := by omega
      have i1 : (0 : Int) + (i : Int) < shs.length := by omega
      have j0 : (0 : Int) ≤ 0 + (j : Int) := by omega
      have j1 : (0 : Int) + (j : Int) < shs.length := by omega
      generalize hI : (0 : Int) + (i : Int) = I at i0 i1
      generalize hJ : (0 : Int) + (j : Int) = J at j0 j1
      have okI : okSrc shs.length I = true := by
        unfold okSrc
        rw [decide_eq_true i0, decide_eq_true i1]
        rfl
      have okJ : okSrc shs.length J = true := by
        unfold okSrc
        rw [decide_eq_true j0, decide_eq_true j1]
        rfl
      refine ⟨_, gd_name ?_⟩
      refine so_cut (fun ω' δ' => ∃ l : List Int, kindLen.lookup w = some ((l.length : Int) + 1) ∧ (srcs w l).all (okSrc shs.length) = true ∧ (∀ v ∈ l, 0 ≤ v ∧ v ≤ 1000) ∧ ω' = [(p, fs)] ∧ δ' = [some .st, some (.str w), some (.lst (shs.map shD)), some (.int g), some (.obj p), some (.int I), some (.int a), some (.int b), some (.int J), x9, x10, some (stD w l), x12]) (so_lift ?_) fun ω' δ' e => ?_
      · refine sd_asg ?_
        walk_at "pd"
        refine ⟨fun z => ?_, fun z => ?_⟩
        · have z := of_decide_eq_true z
          subst z
          walk_at "pd"
          refine ⟨[I], rfl, ?_, fun v hv => ?_, rfl, rfl⟩
          · show (okSrc shs.length I && true) = true
            rw [okI]
            rfl
          · rw [List.mem_singleton.mp hv]
            omega
        · have n3 := of_decide_eq_false z
          have h3 : n = 3 := by
            rcases kind_cases hk with ⟨_, h⟩ | ⟨_, h⟩ | ⟨h, _⟩ | ⟨_, h⟩ | ⟨_, h⟩ | ⟨h, _⟩ | ⟨h, _⟩ <;> first | exact h | exact absurd h n1 | exact absurd h n2 | exact absurd h n3
          subst h3
          walk_at "pd"
          refine ⟨[I, J], hk, ?_, fun v hv => ?_, rfl, rfl⟩
          · unfold srcs
            rw [if_pos hk]
            show (okSrc shs.length I && (okSrc shs.length J && true)) = true
            rw [okI, okJ]
            rfl
          · simp only [List.mem_cons, List.not_mem_nil, or_false] at hv
            rcases hv with rfl | rfl <;> omega
      obtain ⟨l, hk2, ha, hl, rfl, rfl⟩ := e
      refine so_seq (so_lift ?_)
      walk_at "pd"
      refine ⟨shs, w, l, rfl, hk2, ha, ?_⟩
      have same : fs.length ≤ i * 20 + (j + 1) := by omega
      cases em : lawFit w l (shAt shs (l.getD 0 0)) (shAt shs (l.getD 1 0)) with
      | none =>
        unfold optSh
        walk_at "pd"
        refine so_if ?_
        walk_at "pd"
        exact so_next ⟨fs, _, _, _, _, _, same, hf, rfl, rfl⟩
      | some q =>
        obtain ⟨q1, q2⟩ := q
        unfold optSh shD
        walk_at "pd"
        refine so_if ?_
        walk_at "pd"
        refine rc_maxT (n := q1) (ns := [q2]) ?_
        have em2 : ([q2] : List Int).foldl max q1 = max q1 q2 := rfl
        rw [em2]
        walk_at "pd"
        refine ⟨fun z => ?_, fun z => ?_⟩
        · have z := of_decide_eq_true z
          have mq : madeD shs (stD w l) = some (q1, q2) := made_lawFit hk2 n1 ha em (by simp only; omega) (by simp only; omega)
          have oq := made_okSh okk mq
          have good : GoodSt shs (stD w l) := ⟨w, l, _, rfl, hk2, mq, by unfold okSh at oq; unfold sm4; simp only at *; omega, hl⟩
          have app : ∀ B C : Om → DS → Prop, SO W WF (tDrop (tBM W.K "list" rAppend (tVar 4) (tCons (tVar 11) tNil))) [(p, fs)] [some .st, some (.str w), some (.lst (shs.map shD)), some (.int g), some (.obj p), some (.int I), some (.int a), some (.int b), some (.int J), x9, x10, some (stD w l), some (.tup [.int q1, .int q2])] (fun ω δ => ∃ (fs : List D) (x8 x9 x10 x11 x12 : Option D), fs.length ≤ i * 20 + (j + 1) ∧ (∀ e ∈ fs, GoodSt shs e ∧ (w ≠ "star" → noStar e)) ∧ ω = [(p, fs)] ∧ δ = [some .st, some (.str w), some (.lst (shs.map shD)), some (.int g), some (.obj p), some (.int I), some (.int a), some (.int b), x8, x9, x10, x11, x12]) P B C XN := fun B C => by
            refine so_app (i := 4) rfl List.mem_cons_self (fun es m => ?_) ?_
            · rw [List.mem_singleton] at m
              cases m
              have : i * 20 ≤ 20 * 20 := Nat.mul_le_mul_right _ (by omega)
              omega
            walk_at "pd"
            refine ⟨_, rfl, fs ++ [stD w l], _, _, _, _, _, by rw [List.length_append]; show fs.length + 1 ≤ _; omega, fun e he => ?_, by simp [putO], rfl⟩
            rcases List.mem_append.mp he with he | he
            · exact hf e he
            · rw [List.mem_singleton.mp he]
              exact ⟨good, fun h => ⟨_, _, rfl, h⟩⟩
          walk_at "pd"
          refine ⟨fun z => ?_, fun z => ?_⟩
          · walk_at "pd"
            refine ⟨fun _ => app _ _, fun _ => so_next ⟨fs, _, _, _, _, _, same, hf, rfl, rfl⟩⟩
          · exact ⟨fun _ => app _ _, fun z => (by cases z)⟩
        · walk_at "pd"
          exact so_next ⟨fs, _, _, _, _, _, same, hf, rfl, rfl⟩
    · obtain ⟨fs, x8, x9, x10, x11, x12, lf, hf, rfl, rfl⟩ := hI
      rw [rngD_length] at lf
      exact ⟨fs, _, _, _, _, _, _, by omega, hf, rfl, rfl⟩
  · obtain ⟨fs, x5, x8, x9, x10, x11, x12, lf, hf, rfl, rfl⟩ := hI
    rw [rngD_length] at lf
    have lf : fs.length ≤ 400 := by omega
    refine so_retL (evl_put (a := p) 4 rfl List.mem_cons_self (evl_ev ?_))
    walk_at "pd"
    refine ⟨fun z => ?_, fun z => ?_⟩
    · have z := of_decide_eq_true z
      walk_at "pd"
      refine pick_small (by omega) (by omega) fun r r0 r1 => ?_
      refine rd_ixLm (by omega) (by omega) fun d hd => ?_
      obtain ⟨gd, gn⟩ := hf d hd
      refine ⟨?_, hP d gd gn⟩
      obtain ⟨k, l, q, rfl, hk, _, _, hl⟩ := gd
      exact isSt_nref ⟨k, l, rfl, hk, hl⟩
    · walk_at "pd"
      exact ⟨nref_tup fun y hy => by
        simp only [List.mem_cons, List.not_mem_nil, or_false] at hy
        rcases hy with rfl | rfl <;> rfl, turn⟩
theorem isSt_of {shs : List Sh} {e : D} (h : GoodSt shs e) : isSt e := by
  obtain ⟨k, l, q, rfl, hk, _, _, hl⟩ := h
  exact ⟨k, l, rfl, hk, hl⟩
def F__law_world : FD := fun ds P => ∃ ws : List D, ds = [.st, .lst ws] ∧ ws.length ≤ 8 ∧ (∀ e ∈ ws, ∃ w n, e = .str w ∧ kindLen.lookup w = some n) ∧ ∀ (n : Nat) (gs xs : List D) (r : List Sh), WorldP n gs xs r → xs.length = ws.length → ((∀ e ∈ ws, e ≠ .str "star") → ∀ e ∈ xs, noStar e) → P (worldD n gs xs r)
theorem len__law_world : ∀ ds P, F__law_world ds P → ds.length = 2 := by (intro ds P h; first | exact h | (obtain ⟨_, rfl, _⟩ := h; rfl) | (obtain ⟨_, _, rfl, _⟩ := h; rfl) | (obtain ⟨_, _, _, rfl, _⟩ := h; rfl) | (obtain ⟨_, _, _, _, rfl, _⟩ := h; rfl) | (obtain ⟨_, _, _, _, _, rfl, _⟩ := h; rfl) | (obtain ⟨_, _, _, _, _, _, rfl, _⟩ := h; rfl) | (obtain ⟨_, _, _, _, _, _, _, rfl, _⟩ := h; rfl) | (obtain ⟨_, _, _, _, _, _, _, _, rfl, _⟩ := h; rfl) | (obtain ⟨_, _, _, _, _, _, _, _, _, rfl, _⟩ := h; rfl) | (obtain ⟨_, _, _, _, _, _, _, _, _, _, rfl, _⟩ := h; rfl) | (obtain ⟨_, _, _, _, _, _, _, _, _, _, _, rfl, _⟩ := h; rfl) | (obtain ⟨_, _, _, _, _, _, _, _, _, _, _, _, rfl, _⟩ := h; rfl) | (obtain ⟨_, _, _, _, _, _, _, _, _, _, _, _, _, rfl, _⟩ := h; rfl) | (obtain ⟨_, _, _, _, _, _, _, _, _, _, _, _, _, rfl, _⟩ := h; rfl) | (obtain ⟨_, _, _, _, _, _, _, _, _, _, _, _, _, _, rfl, _⟩ := h; rfl) | (obtain ⟨_, _, _, _, _, _, _, _, _, _, _, _, _, _, _, rfl, _⟩ := h; rfl) | (obtain ⟨_, _, _, _, _, _, _, _, _, _, _, _, _, _, _, _, rfl, _⟩ := h; rfl) | (obtain ⟨_, _, _, _, _, _, _, _, _, _, _, _, _, _, _, _, _, rfl, _⟩ := h; rfl) | (obtain ⟨_, _, _, _, _, _, _, _, _, _, _, _, _, _, _, _, _, _, rfl, _⟩ := h; rfl) | (obtain ⟨_, _, _, _, _, _, _, _, _, _, _, _, _, _, _, _, _, _, _, rfl, _⟩ := h; rfl) | (obtain ⟨_, _, _, _, _, _, _, _, _, _, _, _, _, _, _, _, _, _, _, _, rfl, _⟩ := h; rfl) | (obtain ⟨_, _, _, _, _, _, _, _, _, _, _, _, _, _, _, _, _, _, _, _, _, rfl, _⟩ := h; rfl) | (obtain ⟨rfl, _⟩ := h; rfl))
theorem ok__law_world (T : Txt K mg) : FnOk Pg T.w0 K mg base CX0 6 T.D__law_world.f T.D__law_world.d ["state", "words"] ((spD K F__law_world)) := by
  have G__law_grids := ok__law_grids (Pg := Pg) (base := base) T
  have G__law_pick := ok__law_pick (Pg := Pg) (base := base) T
  have G__law_shape := ok__law_shape (Pg := Pg) (base := base) T
  have G__law_step := ok__law_step (Pg := Pg) (base := base) T
  refine T.D__law_world.F.ok (k := 5) sc__law_world (spD_len (len__law_world)) (fun cdv A outer s H vs Q E hr h => ?_)
  refine ⟨_, (pss_cons (ps_setLc (i := 2) (own := [("base", 8)]) rfl sc__law_world.nd rfl rfl (sw_true rfl rfl rfl (by decide +kernel)) (pi_range1 (by rfl) T.n_range (pa_cons (pe_ix (ix_seqK (K := K) rfl) (pe_lst (pa_cons pe_int (pa_cons pe_int (pa_cons pe_int (pa_cons pe_int (pa_cons pe_int pa_nil)))))) (pe_call G__law_pick (hr.mono (by decide)) (by rfl) T.D__law_pick.g T.D__law_pick.F.kp T.D__law_pick.b .nil pass0 (pa_cons (pv 0) (pa_cons pe_int pa_nil))) (fun _ _ => rfl)) pa_nil)) (blkOk_by (N := ["state", "words", "bottoms", "grids", "shapes", "steps", "word", "step", "base", "rows"]) (sc := defScope s__law_world) (by decide +kernel)) (fun _ _ _ _ _ => (pg_name (i := 8) sc__law_world.nd rfl (by first | exact Or.inl rfl | exact Or.inr rfl))) (fun _ _ _ _ _ => pts_nil) (fun _ _ _ _ _ => (pe_ix (ix_seqK (K := K) rfl) (pe_lst (pa_cons pe_int (pa_cons pe_int (pa_cons pe_int (pa_cons pe_int (pa_cons pe_int pa_nil)))))) (pe_call G__law_pick (hr.mono (by decide)) (by rfl) T.D__law_pick.g T.D__law_pick.F.kp T.D__law_pick.b .nil pass0 (pa_cons (pv 0) (pa_cons pe_int pa_nil))) (fun _ _ => rfl))))
    (pss_cons (ps_set (i := 3) sc__law_world.nd rfl (by first | exact Or.inl rfl | exact Or.inr rfl) (pe_call G__law_grids (hr.mono (by decide)) (by rfl) T.D__law_grids.g T.D__law_grids.F.kp T.D__law_grids.b .nil pass0 (pa_cons (pv 0) (pa_cons (pv 2) pa_nil))))
    (pss_cons (ps_setLc (i := 4) (own := [("rows", 9)]) rfl sc__law_world.nd rfl rfl (sw_true rfl rfl rfl (by decide +kernel)) (pi_seqK (K := K) rfl (pv 3)) (blkOk_by (N := ["state", "words", "bottoms", "grids", "shapes", "steps", "word", "step", "base", "rows"]) (sc := defScope s__law_world) (by decide +kernel)) (fun _ _ _ _ _ => (pg_name (i := 9) sc__law_world.nd rfl (by first | exact Or.inl rfl | exact Or.inr rfl))) (fun _ _ _ _ _ => pts_nil) (fun _ _ _ _ _ => (pe_tup (pa_cons (pe_callB (call_lenK (K := K) rfl) (by rfl) T.n_len (by decide +kernel) (pa_cons (pv 9) pa_nil)) (pa_cons (pe_callB (call_lenK (K := K) rfl) (by rfl) T.n_len (by decide +kernel) (pa_cons (pe_ix (ix_seqK (K := K) rfl) (pv 9) pe_int (fun _ _ => rfl)) pa_nil)) pa_nil)))))
    (pss_cons (ps_set (i := 5) sc__law_world.nd rfl (by first | exact Or.inl rfl | exact Or.inr rfl) (pe_lst pa_nil))
    (pss_cons (ps_for PassesOwn.never rfl (pi_seqK (K := K) rfl (pv 1)) (pg_name (i := 6) sc__law_world.nd rfl (by first | exact Or.inl rfl | exact Or.inr rfl))
      (pss_cons (ps_set (i := 7) sc__law_world.nd rfl (by first | exact Or.inl rfl | exact Or.inr rfl) (pe_call G__law_step (hr.mono (by decide)) (by rfl) T.D__law_step.g T.D__law_step.F.kp T.D__law_step.b .nil pass0 (pa_cons (pv 0) (pa_cons (pv 6) (pa_cons (pv 4) pa_nil)))))
    (pss_cons (ps_expr (pe_bm PySem.F.plainAttrs_list PySem.F.slot_list_append PySem.F.type_list_append mt_append (pv 5) (pa_cons (pv 7) pa_nil)))
    (pss_one (ps_expr (pe_bm PySem.F.plainAttrs_list PySem.F.slot_list_append PySem.F.type_list_append mt_append (pv 4) (pa_cons (pe_call G__law_shape (hr.mono (by decide)) (by rfl) T.D__law_shape.g T.D__law_shape.F.kp T.D__law_shape.b .nil pass0 (pa_cons (pv 7) (pa_cons (pv 4) pa_nil))) pa_nil)))))))
    (pss_one (ps_ret (pe_lst (pa_cons (pe_callB (call_lenK (K := K) rfl) (by rfl) T.n_len (by decide +kernel) (pa_cons (pv 2) pa_nil)) (pa_cons (pv 3) (pa_cons (pv 5) (pa_cons (pv 4) pa_nil)))))))))))), ?_⟩
  try dsimp only [cxOf, Cx.blk, Cx.nox, Cx.wish]
  refine body_ofO h fun W ds P eK f => ?_
  subst eK
  obtain ⟨ws, rfl, l8, hw, hP⟩ := f
  refine so_seq (so_lift ?_)
  walk_at "pd"
  refine ev_lcAll (fun y => ∃ b : Int, y = .int b ∧ 1 ≤ b ∧ b ≤ 4) (it_rng1 ?_)
  walk_at "pd"
  refine pick_lit (by decide +kernel) fun m m0 m1 => ?_
  refine rd_ixLm (by omega) (by show m < 5; omega) fun d hd => ?_
  have hn : ∃ n : Nat, d = .int (n : Int) ∧ 1 ≤ n ∧ n ≤ 3 := by
    simp only [List.mem_cons, List.not_mem_nil, or_false] at hd
    rcases hd with rfl | rfl | rfl | rfl | rfl
    · exact ⟨1, rfl, by decide, by decide⟩
    · exact ⟨2, rfl, by decide, by decide⟩
    · exact ⟨1, rfl, by decide, by decide⟩
    · exact ⟨3, rfl, by decide, by decide⟩
    · exact ⟨2, rfl, by decide, by decide⟩
  obtain ⟨n, rfl, n1, n3⟩ := hn
  walk_at "pd"
  refine ⟨_, rfl, by omega, by omega, by rw [rngD_length]; omega, fun k d hd => ⟨[8], by simp, gd_name ?_⟩, fun l hl hG => ?_⟩
  · walk_at "pd"
    refine pick_lit (by decide +kernel) fun b b0 b1 => ?_
    refine rd_ixLm (by omega) (by show b < 5; omega) fun d hd => ?_
    simp only [List.mem_cons, List.not_mem_nil, or_false] at hd
    rcases hd with rfl | rfl | rfl | rfl | rfl <;> exact ⟨_, rfl, by decide, by decide⟩
  obtain ⟨bs, rfl, hb⟩ := all_maps hG
  rw [List.length_map, rngD_length] at hl
  have hl : bs.length = n := by omega
  have ob : OkB bs := ⟨by omega, by omega, hb⟩
  refine so_seq (so_lift ?_)
  walk_at "pd"
  refine ⟨bs, rfl, ob, fun gs g1 g3 hg => ?_⟩
  rw [hl] at hg
  refine so_seq (so_asgF ?_)
  refine ev_lcLF (it_seqL (ev_var rfl ⟨gs, rfl, by omega, (gs.map shL).map shD, by rw [List.length_map, List.length_map], fun i d y hd hy => ?_, fun p np => ?_⟩))
  · rw [List.getElem?_map, List.getElem?_map, hd] at hy
    cases hy
    obtain ⟨rows, w, rfl, r1, r3, w1, w3, hr⟩ := hg d (List.mem_of_getElem? hd)
    cases rows with
    | nil => simp at r1
    | cons r0 rows =>
      obtain ⟨cs, rfl, _, _⟩ := hr r0 List.mem_cons_self
      refine ⟨[9], by simp, gd_name ?_⟩
      walk_at "pd"
      rfl
  refine so_seq (so_new ?_)
  walk_at "pd"
  refine fun p2 np2 => ?_
  have ne : p ≠ p2 := fun z => np2 (p, _) List.mem_cons_self z
  have ne2 : p2 ≠ p := fun z => ne z.symm
  have sh3 : ∀ q ∈ gs.map shL, sm4 q := fun q hq => by
    obtain ⟨g, hgm, rfl⟩ := List.mem_map.mp hq
    obtain ⟨_, h1, h2, h3⟩ := (hg g hgm).sh 0 0
    unfold okSh at h1
    unfold sm4
    omega
  refine so_seq (so_for (it_seqL (ev_var rfl ⟨ws, rfl, fun i ω δ => ∃ (xs : List D) (r : List Sh) (x6 x7 x8 x9 : Option D), xs.length = i ∧ (∀ e ∈ xs, isSt e) ∧ ((∀ e ∈ ws, e ≠ .str "star") → ∀ e ∈ xs, noStar e) ∧ runS (gs.map shL) xs 0 = .inl r ∧ (∀ q ∈ r, sm4 q) ∧ r.length = gs.length + i ∧ Has ω p (r.map shD) ∧ Has ω p2 xs ∧ δ = [some .st, some (.lst ws), some (vecD bs), some (.lst gs), some (.obj p), some (.obj p2), x6, x7, x8, x9], ⟨[], gs.map shL, _, _, _, _, rfl, (fun _ h => by cases h), (fun _ _ h => by cases h), rfl, sh3, by rw [List.length_map]; rfl, (Has.new np).cons ne, Has.new np2, rfl⟩, fun i d ω δ hd hI => ?_, fun ω δ hI => ?_⟩)))
  · obtain ⟨xs, r, x6, x7, x8, x9, lx, hx, hst, hr, hs, lr, h1, h2, rfl⟩ := hI
    obtain ⟨w, k, rfl, hk⟩ := hw d (List.mem_of_getElem? hd)
    have il := (List.getElem?_eq_some_iff.mp hd).1
    refine ⟨_, gd_name ?_⟩
    refine so_seq (so_asgL (evl_put (a := p) 4 rfl h1.1 (evl_ev ?_)))
    walk_at "pd"
    refine ⟨r, w, k, rfl, hk, by omega, by omega, hs, fun e he hw2 => ?_⟩
    have hse := isSt_of he
    refine ⟨isSt_nref hse, ?_⟩
    refine so_seq (so_app (i := 5) rfl h2.1 (fun es m => by rw [h2.2 es m]; omega) ?_)
    walk_at "pd"
    refine ⟨_, rfl, ?_⟩
    obtain ⟨kk, l, q, rfl, hk2, hm, hq, hl2⟩ := he
    have lf := lawFit_made hk2 hm
    refine so_appL rfl (h1.off ne) (by rw [List.length_map]; omega) (evl_put (a := p) 4 rfl (h1.off ne).1 (evl_ev ?_))
    walk_at "pd"
    refine ⟨r, kk, l, rfl, hk2, lf.2, ?_⟩
    rw [lf.1]
    refine ⟨nref_opt (some q), xs ++ [stD kk l], r ++ [q], _, _, _, _, by rw [List.length_append, lx]; rfl, fun e he => ?_, fun hn e he => ?_, runS_snoc hm hr, fun z hz => ?_, by rw [List.length_append, lr]; show _ + 1 = _; omega, ?_, ?_, rfl⟩
    · rcases List.mem_append.mp he with he | he
      · exact hx e he
      · rw [List.mem_singleton.mp he]
        exact hse
    · rcases List.mem_append.mp he with he | he
      · exact hst hn e he
      · rw [List.mem_singleton.mp he]
        exact hw2 fun z => hn _ (List.mem_of_getElem? hd) (by rw [z])
    · rcases List.mem_append.mp hz with hz | hz
      · exact hs z hz
      · rw [List.mem_singleton.mp hz]
        exact hq
    · rw [List.map_append]
      exact (h1.off ne).put (f := fun es => es ++ [optSh (some q)])
    · exact h2.put.off ne2
  · obtain ⟨xs, r, x6, x7, x8, x9, lx, hx, hst, hr, hs, lr, h1, h2, rfl⟩ := hI
    refine so_retA (evl_put (a := p) 4 rfl h1.1 (evl_put (a := p2) 5 rfl h2.1 (evl_ev ?_)))
    walk_at "pd"
    have := hP n gs xs r ⟨n1, n3, hg, g1, g3, hx, by omega, hr⟩ lx hst
    rw [List.length_map, hl]
    exact this
def F__law_lowest : FD := fun ds P => ∃ a b : Int, ds = [.int a, .int b] ∧ 0 < b ∧ b.natAbs < 2 ^ 8000 ∧ P (fr (lowF a b))
theorem len__law_lowest : ∀ ds P, F__law_lowest ds P → ds.length = 2 := by (intro ds P h; first | exact h | (obtain ⟨_, rfl, _⟩ := h; rfl) | (obtain ⟨_, _, rfl, _⟩ := h; rfl) | (obtain ⟨_, _, _, rfl, _⟩ := h; rfl) | (obtain ⟨_, _, _, _, rfl, _⟩ := h; rfl) | (obtain ⟨_, _, _, _, _, rfl, _⟩ := h; rfl) | (obtain ⟨_, _, _, _, _, _, rfl, _⟩ := h; rfl) | (obtain ⟨_, _, _, _, _, _, _, rfl, _⟩ := h; rfl) | (obtain ⟨_, _, _, _, _, _, _, _, rfl, _⟩ := h; rfl) | (obtain ⟨_, _, _, _, _, _, _, _, _, rfl, _⟩ := h; rfl) | (obtain ⟨_, _, _, _, _, _, _, _, _, _, rfl, _⟩ := h; rfl) | (obtain ⟨_, _, _, _, _, _, _, _, _, _, _, rfl, _⟩ := h; rfl) | (obtain ⟨_, _, _, _, _, _, _, _, _, _, _, _, rfl, _⟩ := h; rfl) | (obtain ⟨_, _, _, _, _, _, _, _, _, _, _, _, _, rfl, _⟩ := h; rfl) | (obtain ⟨_, _, _, _, _, _, _, _, _, _, _, _, _, rfl, _⟩ := h; rfl) | (obtain ⟨_, _, _, _, _, _, _, _, _, _, _, _, _, _, rfl, _⟩ := h; rfl) | (obtain ⟨_, _, _, _, _, _, _, _, _, _, _, _, _, _, _, rfl, _⟩ := h; rfl) | (obtain ⟨_, _, _, _, _, _, _, _, _, _, _, _, _, _, _, _, rfl, _⟩ := h; rfl) | (obtain ⟨_, _, _, _, _, _, _, _, _, _, _, _, _, _, _, _, _, rfl, _⟩ := h; rfl) | (obtain ⟨_, _, _, _, _, _, _, _, _, _, _, _, _, _, _, _, _, _, rfl, _⟩ := h; rfl) | (obtain ⟨_, _, _, _, _, _, _, _, _, _, _, _, _, _, _, _, _, _, _, rfl, _⟩ := h; rfl) | (obtain ⟨_, _, _, _, _, _, _, _, _, _, _, _, _, _, _, _, _, _, _, _, rfl, _⟩ := h; rfl) | (obtain ⟨_, _, _, _, _, _, _, _, _, _, _, _, _, _, _, _, _, _, _, _, _, rfl, _⟩ := h; rfl) | (obtain ⟨rfl, _⟩ := h; rfl))
theorem ok__law_lowest (T : Txt K mg) : FnOk Pg T.w0 K mg base CX0 1 T.D__law_lowest.f T.D__law_lowest.d ["top", "bottom"] ((spD K F__law_lowest)) := by
  refine T.D__law_lowest.F.ok (k := 0) sc__law_lowest (spD_len (len__law_lowest)) (fun cdv A outer s H vs Q E hr h => ?_)
  refine ⟨_, (pss_cons (ps_par (i := 2) (j := 3) (by rfl) sc__law_lowest.nd rfl rfl (by decide) rfl rfl (pa_cons (pe_callB call_abs (by rfl) T.n_abs (by decide +kernel) (pa_cons (pv 0) pa_nil)) (pa_cons (pv 1) pa_nil)) (by rfl))
    (pss_cons (ps_while PassesOwn.never (pt_cmpR op_gt (pv 3) pe_int (nomark _)) (pss_one (ps_par (i := 2) (j := 3) (by rfl) sc__law_lowest.nd rfl rfl (by decide) rfl rfl (pa_cons (pv 3) (pa_cons (pe_op op_mod (pe_callTy call_int1 (by rfl) T.n_int (by decide +kernel) (pa_cons (pv 2) pa_nil)) (pv 3)) pa_nil)) (by rfl))))
    (pss_one (ps_ret (pe_tup (pa_cons (pe_op op_fdivW (pv 0) (pv 2)) (pa_cons (pe_op op_fdivW (pv 1) (pv 2)) pa_nil))))))), ?_⟩
  try dsimp only [cxOf, Cx.blk, Cx.nox, Cx.wish]
  (refine body_of h fun W ds P eK f => ?_); subst eK
  obtain ⟨a, b, rfl, hb, hs, hP⟩ := f
  walk_at "pd"
  refine ⟨_, _, rfl, ?_⟩
  walk_at "pd"
  refine sd_while (fun δ => ∃ x y, δ = [some (.int a), some (.int b), some (.int x), some (.int y)] ∧ 0 ≤ x ∧ 0 ≤ y ∧ Nat.gcd x.natAbs y.natAbs = gcdI a b) (fun δ => match δ with | [_, _, _, some (.int y)] => y.natAbs | _ => 0) ⟨_, _, rfl, ?_, ?_, ?_⟩ ?_
  · split <;> omega
  · omega
  · show Nat.gcd _ _ = Nat.gcd _ _
    congr 1
    split <;> omega
  · rintro δ ⟨x, y, rfl, hx, hy, hg⟩
    walk_at "pd"
    refine ⟨fun hb1 => ?_, fun hb1 => ?_⟩
    · have hy1 := of_decide_eq_true hb1
      walk_at "pd"
      · exact hy1
      · refine ⟨_, _, rfl, ?_⟩
        refine ⟨⟨y, x % y, rfl, hy, Int.emod_nonneg _ (by omega), ?_⟩, ?_⟩
        · rw [← hg, Int.natAbs_emod_of_nonneg hx]
          rw [Nat.gcd_comm y.natAbs, ← Nat.gcd_rec, Nat.gcd_comm]
        · show (x % y).natAbs < y.natAbs
          have h1 := Int.emod_nonneg x (b := y) (by omega)
          have h2 := Int.emod_lt_of_pos x hy1
          omega
    · have hy1 := of_decide_eq_false hb1
      have hy0 : y = 0 := by omega
      subst hy0
      have hxg : x = (gcdI a b : Int) := by
        rw [← hg]
        simp
        omega
      walk_at "pd"
      · rw [hxg]; exact div_gcd hb hs
      · rw [hxg]; exact div_gcd hb hs
      · rw [hxg]; exact hP
theorem num_deg {a b : Int} (a0 : 0 < a) (ha : a.natAbs < 10000000000000000000000000000000000000000) (h1 : 0 < b) (h2 : b.natAbs < 10000000000000000000000000000000000000000) : IsF (lowF a b) ∧ 0 < (lowF a b).1 ∧ Sz 134 (lowF a b) :=
  ⟨lowF_isF h1, by
    have d1 := gcdI_dvd1 a b
    have gp := gcdI_pos (a := a) (b := b) (by omega)
    obtain ⟨p, hp⟩ := d1
    show 0 < a / (gcdI a b : Int)
    have e : a / (gcdI a b : Int) = p := by
      have := Int.mul_ediv_cancel_left p (show (gcdI a b : Int) ≠ 0 by omega)
      rw [← hp] at this
      exact this
    rw [e]
    rw [hp] at a0
    rcases Int.lt_or_le 0 p with h | h
    · exact h
    · exfalso
      have := Int.mul_le_mul_of_nonneg_left h (show (0 : Int) ≤ (gcdI a b : Int) by omega)
      omega, low_sz (sz40 ha) (sz40 h2)⟩
theorem deg_one {a b B V : Int} (hd : b ∣ B) (h : 0 < b) (ha : 0 ≤ a) (hV : 16 * a ≤ V) : DegF B V 1 (lowF a b) := by
  refine deg_low h ha (by rw [Int.pow_succ, Int.pow_zero, Int.one_mul]; exact hd) ?_
  rw [Int.pow_succ, Int.pow_zero, Int.one_mul]
  have := Int.mul_le_mul_of_nonneg_left (show 1 ≤ b by omega) (show 0 ≤ V by omega)
  omega
theorem small_dvd : ∀ b : Fin 13, 0 < b.val → ((b.val : Int) ∣ 27720) ∧ ((b.val : Int) ∣ bGreat) := by decide
def F__law_number : FD := fun ds P => ∃ g : Bool, ds = [.st, .bl g] ∧ ∀ q : Fr, 0 < q.1 → Sz 134 q → (g = false → DegF 27720 192 1 q) → (g = true → DegF bGreat vGreat 1 q) → P (fr q)
theorem len__law_number : ∀ ds P, F__law_number ds P → ds.length = 2 := by (intro ds P h; first | exact h | (obtain ⟨_, rfl, _⟩ := h; rfl) | (obtain ⟨_, _, rfl, _⟩ := h; rfl) | (obtain ⟨_, _, _, rfl, _⟩ := h; rfl) | (obtain ⟨_, _, _, _, rfl, _⟩ := h; rfl) | (obtain ⟨_, _, _, _, _, rfl, _⟩ := h; rfl) | (obtain ⟨_, _, _, _, _, _, rfl, _⟩ := h; rfl) | (obtain ⟨_, _, _, _, _, _, _, rfl, _⟩ := h; rfl) | (obtain ⟨_, _, _, _, _, _, _, _, rfl, _⟩ := h; rfl) | (obtain ⟨_, _, _, _, _, _, _, _, _, rfl, _⟩ := h; rfl) | (obtain ⟨_, _, _, _, _, _, _, _, _, _, rfl, _⟩ := h; rfl) | (obtain ⟨_, _, _, _, _, _, _, _, _, _, _, rfl, _⟩ := h; rfl) | (obtain ⟨_, _, _, _, _, _, _, _, _, _, _, _, rfl, _⟩ := h; rfl) | (obtain ⟨_, _, _, _, _, _, _, _, _, _, _, _, _, rfl, _⟩ := h; rfl) | (obtain ⟨_, _, _, _, _, _, _, _, _, _, _, _, _, rfl, _⟩ := h; rfl) | (obtain ⟨_, _, _, _, _, _, _, _, _, _, _, _, _, _, rfl, _⟩ := h; rfl) | (obtain ⟨_, _, _, _, _, _, _, _, _, _, _, _, _, _, _, rfl, _⟩ := h; rfl) | (obtain ⟨_, _, _, _, _, _, _, _, _, _, _, _, _, _, _, _, rfl, _⟩ := h; rfl) | (obtain ⟨_, _, _, _, _, _, _, _, _, _, _, _, _, _, _, _, _, rfl, _⟩ := h; rfl) | (obtain ⟨_, _, _, _, _, _, _, _, _, _, _, _, _, _, _, _, _, _, rfl, _⟩ := h; rfl) | (obtain ⟨_, _, _, _, _, _, _, _, _, _, _, _, _, _, _, _, _, _, _, rfl, _⟩ := h; rfl) | (obtain ⟨_, _, _, _, _, _, _, _, _, _, _, _, _, _, _, _, _, _, _, _, rfl, _⟩ := h; rfl) | (obtain ⟨_, _, _, _, _, _, _, _, _, _, _, _, _, _, _, _, _, _, _, _, _, rfl, _⟩ := h; rfl) | (obtain ⟨rfl, _⟩ := h; rfl))
theorem ok__law_number (T : Txt K mg) : FnOk Pg T.w0 K mg base CX0 2 T.D__law_number.f T.D__law_number.d ["state", "is_great"] ((spD K F__law_number)) := by
  have G__law_lowest := ok__law_lowest (Pg := Pg) (base := base) T
  have G__law_pick := ok__law_pick (Pg := Pg) (base := base) T
  refine T.D__law_number.F.ok (k := 1) sc__law_number (spD_len (len__law_number)) (fun cdv A outer s H vs Q E hr h => ?_)
  refine ⟨_, (pss_cons (ps_if (PW.pt (pw_and (pt_val (pv 1)) (pw_and1 (pt_cmpR (op_eqDK (K := K) rfl (hr_u hr)) (pe_call G__law_pick (hr.mono (by decide)) (by rfl) T.D__law_pick.g T.D__law_pick.F.kp T.D__law_pick.b .nil pass0 (pa_cons (pv 0) (pa_cons pe_int pa_nil))) pe_int (nomark _)))))
      (pss_cons (ps_set (i := 2) sc__law_number.nd rfl (by first | exact Or.inl rfl | exact Or.inr rfl) (pe_op (op_plusK (K := K) rfl) (pe_op (op_plusK (K := K) rfl) pe_int (pe_op op_mulW (pe_call G__law_pick (hr.mono (by decide)) (by rfl) T.D__law_pick.g T.D__law_pick.F.kp T.D__law_pick.b .nil pass0 (pa_cons (pv 0) (pa_cons (pe_op op_pow pe_int pe_int) pa_nil))) (pe_op op_pow pe_int pe_int))) (pe_call G__law_pick (hr.mono (by decide)) (by rfl) T.D__law_pick.g T.D__law_pick.F.kp T.D__law_pick.b .nil pass0 (pa_cons (pv 0) (pa_cons (pe_op op_pow pe_int pe_int) pa_nil)))))
    (pss_one (ps_ret (pe_call G__law_lowest (hr.mono (by decide)) (by rfl) T.D__law_lowest.g T.D__law_lowest.F.kp T.D__law_lowest.b .nil pass0 (pa_cons (pv 2) (pa_cons (pe_ix (ix_seqK (K := K) rfl) (pe_lst (pa_cons pe_int (pa_cons pe_int (pa_cons pe_int (pa_cons (pe_op op_pow pe_int pe_int) pa_nil))))) (pe_call G__law_pick (hr.mono (by decide)) (by rfl) T.D__law_pick.g T.D__law_pick.F.kp T.D__law_pick.b .nil pass0 (pa_cons (pv 0) (pa_cons pe_int pa_nil))) (fun _ _ => rfl)) pa_nil))))))
      pss_nil)
    (pss_one (ps_ret (pe_call G__law_lowest (hr.mono (by decide)) (by rfl) T.D__law_lowest.g T.D__law_lowest.F.kp T.D__law_lowest.b .nil pass0 (pa_cons (pe_op (op_plusK (K := K) rfl) pe_int (pe_call G__law_pick (hr.mono (by decide)) (by rfl) T.D__law_pick.g T.D__law_pick.F.kp T.D__law_pick.b .nil pass0 (pa_cons (pv 0) (pa_cons pe_int pa_nil)))) (pa_cons (pe_op (op_plusK (K := K) rfl) pe_int (pe_call G__law_pick (hr.mono (by decide)) (by rfl) T.D__law_pick.g T.D__law_pick.F.kp T.D__law_pick.b .nil pass0 (pa_cons (pv 0) (pa_cons pe_int pa_nil)))) pa_nil)))))), ?_⟩
  try dsimp only [cxOf, Cx.blk, Cx.nox, Cx.wish]
  (refine body_of h fun W ds P eK f => ?_); subst eK
  obtain ⟨g, rfl, hP⟩ := f
  have small : ∀ a b : Int, 0 ≤ a → a < 12 → 0 ≤ b → b < 12 → F__law_lowest [.int (1 + a), .int (1 + b)] P := fun a b a0 a1 b0 b1 => by
    have := num_deg (a := 1 + a) (b := 1 + b) (by omega) (by omega) (by omega) (by omega)
    have dv := small_dvd ⟨(1 + b).toNat, by omega⟩ (by show 0 < (1 + b).toNat; omega)
    simp only [show ((1 + b).toNat : Int) = 1 + b by omega] at dv
    have v16 : 16 * (1 + a) ≤ vGreat := Int.le_trans (show 16 * (1 + a) ≤ 192 by omega) (by decide)
    exact ⟨_, _, rfl, by omega, lt_pow (show (1 + b).natAbs < 2 ^ 4 by omega) (by decide), hP _ this.2.1 this.2.2 (fun _ => deg_one dv.1 (by omega) (by omega) (by omega)) fun _ => deg_one dv.2 (by omega) (by omega) v16⟩
  have e9 : (10 : Int) ^ (9 : Int).toNat = 1000000000 := by decide
  have e30 : (10 : Int) ^ (30 : Int).toNat = 1000000000000000000000000000000 := by decide
  refine sd_seq (sd_if ?_)
  cases g with
  | true =>
    walk_at "pd"
    refine pick_lit (by decide +kernel) fun c c0 c1 => ?_
    walk_at "pd"
    refine ⟨fun z => ?_, fun z => ?_⟩
    · walk_at "pd"
      rw [e9]
      refine pick_lit (by decide +kernel) fun r r0 r1 => ?_
      walk_at "pd"
      · rw [e30]
        exact mul_ok (lt_pow (show r.natAbs < 2 ^ 40 by have : (2 : Nat) ^ 40 = 1099511627776 := by decide
                                                        omega) (by decide)) (lt_pow (show (1000000000000000000000000000000 : Int).natAbs < 2 ^ 110 by decide) (by decide))
      rw [e9, e30]
      refine pick_lit (by decide +kernel) fun u u0 u1 => ?_
      walk_at "pd"
      refine pick_lit (by decide +kernel) fun v v0 v1 => ?_
      rw [e30]
      refine rd_ixLm (by omega) (by show v < 4; omega) fun d hd => ?_
      simp only [List.mem_cons, List.not_mem_nil, or_false] at hd
      have v16 : 16 * (1 + r * 1000000000000000000000000000000 + u) ≤ vGreat := by
        have : vGreat = 21778071482940061661655974875633165533184 := by decide
        omega
      have go : ∀ b : Int, b ∣ bGreat → 0 < b → b.natAbs < 10000000000000000000000000000000000000000 → F__law_lowest [.int (1 + r * 1000000000000000000000000000000 + u), .int b] P := fun b bd b0 b1 => by
        have := num_deg (a := 1 + r * 1000000000000000000000000000000 + u) (b := b) (by omega) (by omega) b0 b1
        exact ⟨_, _, rfl, b0, lt_pow (sz40 b1) (by decide), hP _ this.2.1 this.2.2 (fun z => by cases z) fun _ => deg_one bd b0 (by omega) v16⟩
      rcases hd with rfl | rfl | rfl | rfl
      · walk_at "pd"
        exact go 1 (by decide) (by decide) (by decide)
      · walk_at "pd"
        exact go 7 (by decide) (by decide) (by decide)
      · walk_at "pd"
        exact go 12 (by decide) (by decide) (by decide)
      · walk_at "pd"
        exact go _ (by decide) (by decide) (by decide)
    · walk_at "pd"
      refine pick_lit (by decide +kernel) fun a a0 a1 => ?_
      walk_at "pd"
      refine pick_lit (by decide +kernel) fun b b0 b1 => ?_
      walk_at "pd"
      exact small a b a0 a1 b0 b1
  | false =>
    walk_at "pd"
    refine pick_lit (by decide +kernel) fun a a0 a1 => ?_
    walk_at "pd"
    refine pick_lit (by decide +kernel) fun b b0 b1 => ?_
    walk_at "pd"
    exact small a b a0 a1 b0 b1
theorem cellP_cases {n : Nat} {c : D} (h : CellP n c) : c = .non ∨ c.isNon = false := by
  rcases h with rfl | ⟨v, rfl, _⟩
  · exact .inl rfl
  · exact .inr rfl
def gB (g : Bool) : Int := if g then bGreat else 27720
def gV (g : Bool) : Int := if g then vGreat else 192
def F__law_numbers : FD := fun ds P => ∃ (n : Nat) (g : D) (b : Bool), ds = [.st, g, .bl b] ∧ GridP n g ∧ ∀ x, GridQ (gB b) (gV b) g x → P (gridV x)
theorem len__law_numbers : ∀ ds P, F__law_numbers ds P → ds.length = 3 := by (intro ds P h; first | exact h | (obtain ⟨_, rfl, _⟩ := h; rfl) | (obtain ⟨_, _, rfl, _⟩ := h; rfl) | (obtain ⟨_, _, _, rfl, _⟩ := h; rfl) | (obtain ⟨_, _, _, _, rfl, _⟩ := h; rfl) | (obtain ⟨_, _, _, _, _, rfl, _⟩ := h; rfl) | (obtain ⟨_, _, _, _, _, _, rfl, _⟩ := h; rfl) | (obtain ⟨_, _, _, _, _, _, _, rfl, _⟩ := h; rfl) | (obtain ⟨_, _, _, _, _, _, _, _, rfl, _⟩ := h; rfl) | (obtain ⟨_, _, _, _, _, _, _, _, _, rfl, _⟩ := h; rfl) | (obtain ⟨_, _, _, _, _, _, _, _, _, _, rfl, _⟩ := h; rfl) | (obtain ⟨_, _, _, _, _, _, _, _, _, _, _, rfl, _⟩ := h; rfl) | (obtain ⟨_, _, _, _, _, _, _, _, _, _, _, _, rfl, _⟩ := h; rfl) | (obtain ⟨_, _, _, _, _, _, _, _, _, _, _, _, _, rfl, _⟩ := h; rfl) | (obtain ⟨_, _, _, _, _, _, _, _, _, _, _, _, _, rfl, _⟩ := h; rfl) | (obtain ⟨_, _, _, _, _, _, _, _, _, _, _, _, _, _, rfl, _⟩ := h; rfl) | (obtain ⟨_, _, _, _, _, _, _, _, _, _, _, _, _, _, _, rfl, _⟩ := h; rfl) | (obtain ⟨_, _, _, _, _, _, _, _, _, _, _, _, _, _, _, _, rfl, _⟩ := h; rfl) | (obtain ⟨_, _, _, _, _, _, _, _, _, _, _, _, _, _, _, _, _, rfl, _⟩ := h; rfl) | (obtain ⟨_, _, _, _, _, _, _, _, _, _, _, _, _, _, _, _, _, _, rfl, _⟩ := h; rfl) | (obtain ⟨_, _, _, _, _, _, _, _, _, _, _, _, _, _, _, _, _, _, _, rfl, _⟩ := h; rfl) | (obtain ⟨_, _, _, _, _, _, _, _, _, _, _, _, _, _, _, _, _, _, _, _, rfl, _⟩ := h; rfl) | (obtain ⟨_, _, _, _, _, _, _, _, _, _, _, _, _, _, _, _, _, _, _, _, _, rfl, _⟩ := h; rfl) | (obtain ⟨rfl, _⟩ := h; rfl))
theorem ok__law_numbers (T : Txt K mg) : FnOk Pg T.w0 K mg base CX0 3 T.D__law_numbers.f T.D__law_numbers.d ["state", "rows", "is_great"] ((spD K F__law_numbers)) := by
  have G__law_number := ok__law_number (Pg := Pg) (base := base) T
  refine T.D__law_numbers.F.ok (k := 2) sc__law_numbers (spD_len (len__law_numbers)) (fun cdv A outer s H vs Q E hr h => ?_)
  refine ⟨_, (pss_one (ps_ret (pe_callTy (call_tuple_ofK (K := K) rfl) (by rfl) T.n_tuple (by decide +kernel) (pa_cons (pe_lc (own := [("row", 3)]) rfl sc__law_numbers.nd (pi_seqK (K := K) rfl (pv 1)) (blkOk_by (N := ["state", "rows", "is_great", "row", "cell"]) (sc := defScope s__law_numbers) (by decide +kernel)) (fun _ _ _ _ _ => (pg_name (i := 3) sc__law_numbers.nd rfl (by first | exact Or.inl rfl | exact Or.inr rfl))) (fun _ _ _ _ _ => pts_nil) (fun _ _ _ _ _ => (pe_callTy (call_tuple_ofK (K := K) rfl) (by rfl) T.n_tuple (by decide +kernel) (pa_cons (pe_lc (own := [("cell", 4)]) rfl sc__law_numbers.nd (pi_seqK (K := K) rfl (pv 3)) (by exact blkOk_by (N := ["state", "rows", "is_great", "row", "cell"]) (by kernel_rfl)) (fun _ _ _ _ _ => (pg_name (i := 4) sc__law_numbers.nd rfl (by first | exact Or.inl rfl | exact Or.inr rfl))) (fun _ _ _ _ _ => pts_nil) (fun _ _ _ _ _ => (pe_ifExp (pt_cmpR op_isN (pv 4) pe_non (nomark _)) (pe_tup (pa_cons pe_int (pa_cons pe_int pa_nil))) (pe_call G__law_number (hr.mono (by decide)) (by rfl) T.D__law_number.g T.D__law_number.F.kp T.D__law_number.b .nil pass0 (pa_cons (pv 0) (pa_cons (pv 2) pa_nil)))))) pa_nil)))) pa_nil)))), ?_⟩
  try dsimp only [cxOf, Cx.blk, Cx.nox, Cx.wish]
  (refine body_of h fun W ds P eK f => ?_); subst eK
  obtain ⟨n, g, b, rfl, ⟨rows, w, rfl, r1, r3, w1, w3, hr⟩, hP⟩ := f
  walk_at "pd"
  refine ev_lcI (fun r z => ∃ l, z = rowV l ∧ LineQ (gB b) (gV b) r l) (it_seqL (ev_var rfl ⟨rows, rfl, by omega, fun i d hd => ?_, fun l hl hG => ?_⟩))
  · obtain ⟨cs, rfl, lc, hc⟩ := hr d (List.mem_of_getElem? hd)
    refine ⟨[3], by simp, gd_name ?_⟩
    walk_at "pd"
    refine ev_lcI (fun c z => ∃ q, z = fr q ∧ CellQ (gB b) (gV b) c q) (it_seqL (ev_var rfl ⟨cs, rfl, by omega, fun j c hcj => ?_, fun l hl hG => ?_⟩))
    · refine ⟨[4], by simp, gd_name ?_⟩
      walk_at "pd"
      rcases cellP_cases (hc c (List.mem_of_getElem? hcj)) with rfl | hn
      · walk_at "pd"
        exact ⟨_, rfl, .inl ⟨rfl, rfl⟩⟩
      · rw [hn]
        walk_at "pd"
        refine ⟨b, rfl, fun q q0 sq d1 d2 => ⟨q, rfl, .inr ⟨hn, q0, sq, ?_⟩⟩⟩
        cases b
        · exact d1 rfl
        · exact d2 rfl
    · walk_at "pd"
      obtain ⟨qs, rfl, lq, hq⟩ := all_pairs hl hG
      exact ⟨qs, rfl, cs, rfl, lq, hq⟩
  · walk_at "pd"
    obtain ⟨x, rfl, lx, hx⟩ := all_pairs hl hG
    exact hP x ⟨rows, rfl, lx, hx⟩
def F__law_values : FD := fun ds P => ∃ (n : Nat) (gs xs : List D) (r : List Sh), ds = [.st, worldD n gs xs r] ∧ WorldP n gs xs r ∧ xs.length ≤ 6 ∧ ∀ (B V : Int) v, BV xs.length B V → ValsQ B V gs v → P (.tup (v.map gridV))
theorem len__law_values : ∀ ds P, F__law_values ds P → ds.length = 2 := by (intro ds P h; first | exact h | (obtain ⟨_, rfl, _⟩ := h; rfl) | (obtain ⟨_, _, rfl, _⟩ := h; rfl) | (obtain ⟨_, _, _, rfl, _⟩ := h; rfl) | (obtain ⟨_, _, _, _, rfl, _⟩ := h; rfl) | (obtain ⟨_, _, _, _, _, rfl, _⟩ := h; rfl) | (obtain ⟨_, _, _, _, _, _, rfl, _⟩ := h; rfl) | (obtain ⟨_, _, _, _, _, _, _, rfl, _⟩ := h; rfl) | (obtain ⟨_, _, _, _, _, _, _, _, rfl, _⟩ := h; rfl) | (obtain ⟨_, _, _, _, _, _, _, _, _, rfl, _⟩ := h; rfl) | (obtain ⟨_, _, _, _, _, _, _, _, _, _, rfl, _⟩ := h; rfl) | (obtain ⟨_, _, _, _, _, _, _, _, _, _, _, rfl, _⟩ := h; rfl) | (obtain ⟨_, _, _, _, _, _, _, _, _, _, _, _, rfl, _⟩ := h; rfl) | (obtain ⟨_, _, _, _, _, _, _, _, _, _, _, _, _, rfl, _⟩ := h; rfl) | (obtain ⟨_, _, _, _, _, _, _, _, _, _, _, _, _, rfl, _⟩ := h; rfl) | (obtain ⟨_, _, _, _, _, _, _, _, _, _, _, _, _, _, rfl, _⟩ := h; rfl) | (obtain ⟨_, _, _, _, _, _, _, _, _, _, _, _, _, _, _, rfl, _⟩ := h; rfl) | (obtain ⟨_, _, _, _, _, _, _, _, _, _, _, _, _, _, _, _, rfl, _⟩ := h; rfl) | (obtain ⟨_, _, _, _, _, _, _, _, _, _, _, _, _, _, _, _, _, rfl, _⟩ := h; rfl) | (obtain ⟨_, _, _, _, _, _, _, _, _, _, _, _, _, _, _, _, _, _, rfl, _⟩ := h; rfl) | (obtain ⟨_, _, _, _, _, _, _, _, _, _, _, _, _, _, _, _, _, _, _, rfl, _⟩ := h; rfl) | (obtain ⟨_, _, _, _, _, _, _, _, _, _, _, _, _, _, _, _, _, _, _, _, rfl, _⟩ := h; rfl) | (obtain ⟨_, _, _, _, _, _, _, _, _, _, _, _, _, _, _, _, _, _, _, _, _, rfl, _⟩ := h; rfl) | (obtain ⟨rfl, _⟩ := h; rfl))
theorem ok__law_values (T : Txt K mg) : FnOk Pg T.w0 K mg base CX0 4 T.D__law_values.f T.D__law_values.d ["state", "world"] ((spD K F__law_values)) := by
  have G__law_numbers := ok__law_numbers (Pg := Pg) (base := base) T
  have G__law_pick := ok__law_pick (Pg := Pg) (base := base) T
  refine T.D__law_values.F.ok (k := 3) sc__law_values (spD_len (len__law_values)) (fun cdv A outer s H vs Q E hr h => ?_)
  refine ⟨_, (pss_cons (ps_set (i := 2) sc__law_values.nd rfl (by first | exact Or.inl rfl | exact Or.inr rfl) (pe_and (pe_cmpR op_lt (pe_callB (call_lenK (K := K) rfl) (by rfl) T.n_len (by decide +kernel) (pa_cons (pe_ix (ix_seqK (K := K) rfl) (pv 1) pe_int (fun _ _ => rfl)) pa_nil)) pe_int (nomark _)) (pe_one (pe_cmpR (op_eqDK (K := K) rfl (hr_u hr)) (pe_call G__law_pick (hr.mono (by decide)) (by rfl) T.D__law_pick.g T.D__law_pick.F.kp T.D__law_pick.b .nil pass0 (pa_cons (pv 0) (pa_cons pe_int pa_nil))) pe_int (nomark _)))))
    (pss_one (ps_ret (pe_callTy (call_tuple_ofK (K := K) rfl) (by rfl) T.n_tuple (by decide +kernel) (pa_cons (pe_lc (own := [("rows", 3)]) rfl sc__law_values.nd (pi_seqK (K := K) rfl (pe_ix (ix_seqK (K := K) rfl) (pv 1) pe_int (fun _ _ => rfl))) (blkOk_by (N := ["state", "world", "is_great", "rows"]) (sc := defScope s__law_values) (by decide +kernel)) (fun _ _ _ _ _ => (pg_name (i := 3) sc__law_values.nd rfl (by first | exact Or.inl rfl | exact Or.inr rfl))) (fun _ _ _ _ _ => pts_nil) (fun _ _ _ _ _ => (pe_call G__law_numbers (hr.mono (by decide)) (by rfl) T.D__law_numbers.g T.D__law_numbers.F.kp T.D__law_numbers.b .nil pass0 (pa_cons (pv 0) (pa_cons (pv 3) (pa_cons (pv 2) pa_nil)))))) pa_nil))))), ?_⟩
  try dsimp only [cxOf, Cx.blk, Cx.nox, Cx.wish]
  (refine body_of h fun W ds P eK f => ?_); subst eK
  obtain ⟨n, gs, xs, r, rfl, w, x6, hP⟩ := f
  have g3 := w.g3
  refine sd_cut (fun δ => ∃ b : Bool, (b = true → xs.length ≤ 3) ∧ δ = [some .st, some (worldD n gs xs r), some (.bl b), none]) ?_ ?_
  · refine sd_asg ?_
    walk_at "pd"
    refine rd_ixL (j := 2) rfl rfl ?_
    walk_at "pd"
    refine ⟨fun z => ?_, fun _ => ⟨_, (fun z => by cases z), rfl⟩⟩
    have z := of_decide_eq_true z
    walk_at "pd"
    refine pick_lit (by decide +kernel) fun c c0 c1 => ?_
    walk_at "pd"
    exact ⟨_, fun _ => by omega, rfl⟩
  · rintro δ ⟨b, hb, rfl⟩
    walk_at "pd"
    refine ev_lcI (fun g z => ∃ x, z = gridV x ∧ GridQ (gB b) (gV b) g x) (it_seqL ?_)
    walk_at "pd"
    refine ⟨gs, rfl, by omega, fun i d hd => ?_, fun l hl hG => ?_⟩
    · refine ⟨[3], by simp, gd_name ?_⟩
      walk_at "pd"
      exact ⟨n, d, b, rfl, w.g d (List.mem_of_getElem? hd), fun x hx => ⟨x, rfl, hx⟩⟩
    · walk_at "pd"
      obtain ⟨v, rfl, lv, hv⟩ := all_pairs hl hG
      refine hP (gB b) (gV b) v ?_ ⟨lv, hv⟩
      cases b
      · exact .inl ⟨rfl, rfl, x6⟩
      · exact .inr ⟨rfl, rfl, hb rfl⟩
def F__law_unit : FD := fun ds P => ∃ (n : Nat) (c : D), ds = [c] ∧ CellP n c ∧ n ≤ 3 ∧ P (cellU c)
theorem len__law_unit : ∀ ds P, F__law_unit ds P → ds.length = 1 := by (intro ds P h; first | exact h | (obtain ⟨_, rfl, _⟩ := h; rfl) | (obtain ⟨_, _, rfl, _⟩ := h; rfl) | (obtain ⟨_, _, _, rfl, _⟩ := h; rfl) | (obtain ⟨_, _, _, _, rfl, _⟩ := h; rfl) | (obtain ⟨_, _, _, _, _, rfl, _⟩ := h; rfl) | (obtain ⟨_, _, _, _, _, _, rfl, _⟩ := h; rfl) | (obtain ⟨_, _, _, _, _, _, _, rfl, _⟩ := h; rfl) | (obtain ⟨_, _, _, _, _, _, _, _, rfl, _⟩ := h; rfl) | (obtain ⟨_, _, _, _, _, _, _, _, _, rfl, _⟩ := h; rfl) | (obtain ⟨_, _, _, _, _, _, _, _, _, _, rfl, _⟩ := h; rfl) | (obtain ⟨_, _, _, _, _, _, _, _, _, _, _, rfl, _⟩ := h; rfl) | (obtain ⟨_, _, _, _, _, _, _, _, _, _, _, _, rfl, _⟩ := h; rfl) | (obtain ⟨_, _, _, _, _, _, _, _, _, _, _, _, _, rfl, _⟩ := h; rfl) | (obtain ⟨_, _, _, _, _, _, _, _, _, _, _, _, _, rfl, _⟩ := h; rfl) | (obtain ⟨_, _, _, _, _, _, _, _, _, _, _, _, _, _, rfl, _⟩ := h; rfl) | (obtain ⟨_, _, _, _, _, _, _, _, _, _, _, _, _, _, _, rfl, _⟩ := h; rfl) | (obtain ⟨_, _, _, _, _, _, _, _, _, _, _, _, _, _, _, _, rfl, _⟩ := h; rfl) | (obtain ⟨_, _, _, _, _, _, _, _, _, _, _, _, _, _, _, _, _, rfl, _⟩ := h; rfl) | (obtain ⟨_, _, _, _, _, _, _, _, _, _, _, _, _, _, _, _, _, _, rfl, _⟩ := h; rfl) | (obtain ⟨_, _, _, _, _, _, _, _, _, _, _, _, _, _, _, _, _, _, _, rfl, _⟩ := h; rfl) | (obtain ⟨_, _, _, _, _, _, _, _, _, _, _, _, _, _, _, _, _, _, _, _, rfl, _⟩ := h; rfl) | (obtain ⟨_, _, _, _, _, _, _, _, _, _, _, _, _, _, _, _, _, _, _, _, _, rfl, _⟩ := h; rfl) | (obtain ⟨rfl, _⟩ := h; rfl))
theorem ok__law_unit (T : Txt K mg) : FnOk Pg T.w0 K mg base CX0 2 T.D__law_unit.f T.D__law_unit.d ["cell"] ((spD K F__law_unit)) := by
  have G__law_lowest := ok__law_lowest (Pg := Pg) (base := base) T
  refine T.D__law_unit.F.ok (k := 1) sc__law_unit (spD_len (len__law_unit)) (fun cdv A outer s H vs Q E hr h => ?_)
  refine ⟨_, (pss_cons (ps_if (pt_cmpR op_isN (pv 0) pe_non (nomark _))
      (pss_one (ps_ret pe_non))
      pss_nil)
    (pss_one (ps_ret (pe_callTy (call_tuple_ofK (K := K) rfl) (by rfl) T.n_tuple (by decide +kernel) (pa_cons (pe_lc (own := [("part", 1)]) rfl sc__law_unit.nd (pi_seqK (K := K) rfl (pv 0)) (blkOk_by (N := ["cell", "part"]) (sc := defScope s__law_unit) (by decide +kernel)) (fun _ _ _ _ _ => (pg_name (i := 1) sc__law_unit.nd rfl (by first | exact Or.inl rfl | exact Or.inr rfl))) (fun _ _ _ _ _ => pts_nil) (fun _ _ _ _ _ => (pe_call G__law_lowest (hr.mono (by decide)) (by rfl) T.D__law_lowest.g T.D__law_lowest.F.kp T.D__law_lowest.b .nil pass0 (pa_cons (pv 1) (pa_cons pe_int pa_nil))))) pa_nil))))), ?_⟩
  try dsimp only [cxOf, Cx.blk, Cx.nox, Cx.wish]
  (refine body_of h fun W ds P eK f => ?_); subst eK
  obtain ⟨n, c, rfl, hc, n3, hP⟩ := f
  rcases hc with rfl | ⟨v, rfl, lv, hv⟩
  · walk_at "pd"
    exact hP
  · rw [cellU_vec] at hP
    walk_at "pd"
    refine ev_lcL (it_seqL (ev_var rfl ⟨v.map D.int, rfl, by rw [List.length_map]; omega, (v.map fun x => lowF x 12).map fr, by rw [List.length_map, List.length_map, List.length_map], fun i d y hd hy => ?_, ?_⟩))
    · rw [List.getElem?_map] at hd hy
      rw [List.getElem?_map] at hy
      cases hz : v[i]? with
      | none => rw [hz] at hd; cases hd
      | some x =>
        rw [hz] at hd hy
        cases hd
        cases hy
        refine ⟨[1], by simp, gd_name ?_⟩
        walk_at "pd"
        exact ⟨x, 12, rfl, by decide, lt_pow (show (12 : Int).natAbs < 2 ^ 4 by decide) (by decide), rfl⟩
    · walk_at "pd"
      exact hP
def F__has_grid_length (K : PySem.W.Frag) : FD := fun ds P => ∃ x, ds = [x] ∧ Jd1 K x ∧ P (.bl (hasLen x))
theorem len__has_grid_length (K : PySem.W.Frag) : ∀ ds P, (F__has_grid_length K) ds P → ds.length = 1 := by (intro ds P h; first | exact h | (obtain ⟨_, rfl, _⟩ := h; rfl) | (obtain ⟨_, _, rfl, _⟩ := h; rfl) | (obtain ⟨_, _, _, rfl, _⟩ := h; rfl) | (obtain ⟨_, _, _, _, rfl, _⟩ := h; rfl) | (obtain ⟨_, _, _, _, _, rfl, _⟩ := h; rfl) | (obtain ⟨_, _, _, _, _, _, rfl, _⟩ := h; rfl) | (obtain ⟨_, _, _, _, _, _, _, rfl, _⟩ := h; rfl) | (obtain ⟨_, _, _, _, _, _, _, _, rfl, _⟩ := h; rfl) | (obtain ⟨_, _, _, _, _, _, _, _, _, rfl, _⟩ := h; rfl) | (obtain ⟨_, _, _, _, _, _, _, _, _, _, rfl, _⟩ := h; rfl) | (obtain ⟨_, _, _, _, _, _, _, _, _, _, _, rfl, _⟩ := h; rfl) | (obtain ⟨_, _, _, _, _, _, _, _, _, _, _, _, rfl, _⟩ := h; rfl) | (obtain ⟨_, _, _, _, _, _, _, _, _, _, _, _, _, rfl, _⟩ := h; rfl) | (obtain ⟨_, _, _, _, _, _, _, _, _, _, _, _, _, rfl, _⟩ := h; rfl) | (obtain ⟨_, _, _, _, _, _, _, _, _, _, _, _, _, _, rfl, _⟩ := h; rfl) | (obtain ⟨_, _, _, _, _, _, _, _, _, _, _, _, _, _, _, rfl, _⟩ := h; rfl) | (obtain ⟨_, _, _, _, _, _, _, _, _, _, _, _, _, _, _, _, rfl, _⟩ := h; rfl) | (obtain ⟨_, _, _, _, _, _, _, _, _, _, _, _, _, _, _, _, _, rfl, _⟩ := h; rfl) | (obtain ⟨_, _, _, _, _, _, _, _, _, _, _, _, _, _, _, _, _, _, rfl, _⟩ := h; rfl) | (obtain ⟨_, _, _, _, _, _, _, _, _, _, _, _, _, _, _, _, _, _, _, rfl, _⟩ := h; rfl) | (obtain ⟨_, _, _, _, _, _, _, _, _, _, _, _, _, _, _, _, _, _, _, _, rfl, _⟩ := h; rfl) | (obtain ⟨_, _, _, _, _, _, _, _, _, _, _, _, _, _, _, _, _, _, _, _, _, rfl, _⟩ := h; rfl) | (obtain ⟨rfl, _⟩ := h; rfl))
theorem ok__has_grid_length (T : Txt K mg) : FnOk Pg T.w0 K mg base CX0 1 T.D__has_grid_length.f T.D__has_grid_length.d ["thing"] ((spD K (F__has_grid_length K))) := by
  refine T.D__has_grid_length.F.ok (k := 0) sc__has_grid_length (spD_len (len__has_grid_length K)) (fun cdv A outer s H vs Q E hr h => ?_)
  refine ⟨_, (pss_one (ps_ret (pe_and (pe_callB (call_isiK' (K := K) rfl) (by rfl) T.n_isinstance (by decide +kernel) (pa_cons (pv 0) (pa_cons (pe_bltn (v := .ty "tuple") (u := .type "tuple") (by rfl) T.n_tuple (by decide +kernel) rfl) pa_nil))) (pe_one (pe_chain op_le op_le pe_int (pe_callB (call_lenK (K := K) rfl) (by rfl) T.n_len (by decide +kernel) (pa_cons (pv 0) pa_nil)) (pe_glob (v := .int 10) rfl T.c_MOST_ROWS ⟨_, rfl⟩)))))), ?_⟩
  try dsimp only [cxOf, Cx.blk, Cx.nox, Cx.wish]
  (refine body_of h fun W ds P eK f => ?_); subst eK
  obtain ⟨x, rfl, hx, hP⟩ := f
  walk_at "pd"
  by_cases hT : x.isTup = true
  · obtain ⟨xs, rfl⟩ := tup_of hT
    simp only [hasLen] at hP
    walk_at "pd"
    refine ⟨fun h1 => ?_, fun h1 => ?_⟩
    · have h1' : 1 ≤ xs.length := by have := of_decide_eq_true h1; omega
      rw [decide_eq_true h1', Bool.true_and] at hP
      walk_at "pd"
      have e : decide ((xs.length : Int) ≤ 10) = decide (xs.length ≤ 10) := decide_eq_decide.mpr (by omega)
      rw [e]
      exact hP
    · have h1' : ¬ 1 ≤ xs.length := by have := of_decide_eq_false h1; omega
      rw [decide_eq_false h1', Bool.false_and] at hP
      exact hP
  · have hT' : x.isTup = false := by simpa using hT
    rw [hT']
    walk_at "pd"
    have e : hasLen x = false := by cases x <;> first | rfl | cases hT'
    rw [e] at hP
    exact hP
def F_is_whole (K : PySem.W.Frag) : FD := fun ds P => ∃ x, ds = [x] ∧ Jd1 K x ∧ P (.bl x.isInt)
theorem len_is_whole (K : PySem.W.Frag) : ∀ ds P, (F_is_whole K) ds P → ds.length = 1 := by (intro ds P h; first | exact h | (obtain ⟨_, rfl, _⟩ := h; rfl) | (obtain ⟨_, _, rfl, _⟩ := h; rfl) | (obtain ⟨_, _, _, rfl, _⟩ := h; rfl) | (obtain ⟨_, _, _, _, rfl, _⟩ := h; rfl) | (obtain ⟨_, _, _, _, _, rfl, _⟩ := h; rfl) | (obtain ⟨_, _, _, _, _, _, rfl, _⟩ := h; rfl) | (obtain ⟨_, _, _, _, _, _, _, rfl, _⟩ := h; rfl) | (obtain ⟨_, _, _, _, _, _, _, _, rfl, _⟩ := h; rfl) | (obtain ⟨_, _, _, _, _, _, _, _, _, rfl, _⟩ := h; rfl) | (obtain ⟨_, _, _, _, _, _, _, _, _, _, rfl, _⟩ := h; rfl) | (obtain ⟨_, _, _, _, _, _, _, _, _, _, _, rfl, _⟩ := h; rfl) | (obtain ⟨_, _, _, _, _, _, _, _, _, _, _, _, rfl, _⟩ := h; rfl) | (obtain ⟨_, _, _, _, _, _, _, _, _, _, _, _, _, rfl, _⟩ := h; rfl) | (obtain ⟨_, _, _, _, _, _, _, _, _, _, _, _, _, rfl, _⟩ := h; rfl) | (obtain ⟨_, _, _, _, _, _, _, _, _, _, _, _, _, _, rfl, _⟩ := h; rfl) | (obtain ⟨_, _, _, _, _, _, _, _, _, _, _, _, _, _, _, rfl, _⟩ := h; rfl) | (obtain ⟨_, _, _, _, _, _, _, _, _, _, _, _, _, _, _, _, rfl, _⟩ := h; rfl) | (obtain ⟨_, _, _, _, _, _, _, _, _, _, _, _, _, _, _, _, _, rfl, _⟩ := h; rfl) | (obtain ⟨_, _, _, _, _, _, _, _, _, _, _, _, _, _, _, _, _, _, rfl, _⟩ := h; rfl) | (obtain ⟨_, _, _, _, _, _, _, _, _, _, _, _, _, _, _, _, _, _, _, rfl, _⟩ := h; rfl) | (obtain ⟨_, _, _, _, _, _, _, _, _, _, _, _, _, _, _, _, _, _, _, _, rfl, _⟩ := h; rfl) | (obtain ⟨_, _, _, _, _, _, _, _, _, _, _, _, _, _, _, _, _, _, _, _, _, rfl, _⟩ := h; rfl) | (obtain ⟨rfl, _⟩ := h; rfl))
theorem ok_is_whole (T : Txt K mg) : FnOk Pg T.w0 K mg base CX0 1 T.D_is_whole.f T.D_is_whole.d ["thing"] ((spD K (F_is_whole K))) := by
  refine T.D_is_whole.F.ok (k := 0) sc_is_whole (spD_len (len_is_whole K)) (fun cdv A outer s H vs Q E hr h => ?_)
  refine ⟨_, (pss_one (ps_ret (pe_and (pe_callB (call_isiK' (K := K) rfl) (by rfl) T.n_isinstance (by decide +kernel) (pa_cons (pv 0) (pa_cons (pe_bltn (v := .ty "int") (u := .type "int") (by rfl) T.n_int (by decide +kernel) rfl) pa_nil))) (pe_one (pe_not (pe_callB (call_isiK' (K := K) rfl) (by rfl) T.n_isinstance (by decide +kernel) (pa_cons (pv 0) (pa_cons (pe_bltn (v := .ty "bool") (u := .type "bool") (by rfl) T.n_bool (by decide +kernel) rfl) pa_nil)))))))), ?_⟩
  try dsimp only [cxOf, Cx.blk, Cx.nox, Cx.wish]
  (refine body_of h fun W ds P eK f => ?_); subst eK
  obtain ⟨x, rfl, hx, hP⟩ := f
  walk_at "pd"
  refine ⟨fun hb => ?_, fun hb => ?_⟩
  · walk_at "pd"
    cases x <;> first | exact hP | cases hb
  · cases x <;> first | exact hP | cases hb
def F_is_pair (K : PySem.W.Frag) : FD := fun ds P => ∃ x, ds = [x] ∧ Jd1 K x ∧ P (.bl (isPr x))
theorem len_is_pair (K : PySem.W.Frag) : ∀ ds P, (F_is_pair K) ds P → ds.length = 1 := by (intro ds P h; first | exact h | (obtain ⟨_, rfl, _⟩ := h; rfl) | (obtain ⟨_, _, rfl, _⟩ := h; rfl) | (obtain ⟨_, _, _, rfl, _⟩ := h; rfl) | (obtain ⟨_, _, _, _, rfl, _⟩ := h; rfl) | (obtain ⟨_, _, _, _, _, rfl, _⟩ := h; rfl) | (obtain ⟨_, _, _, _, _, _, rfl, _⟩ := h; rfl) | (obtain ⟨_, _, _, _, _, _, _, rfl, _⟩ := h; rfl) | (obtain ⟨_, _, _, _, _, _, _, _, rfl, _⟩ := h; rfl) | (obtain ⟨_, _, _, _, _, _, _, _, _, rfl, _⟩ := h; rfl) | (obtain ⟨_, _, _, _, _, _, _, _, _, _, rfl, _⟩ := h; rfl) | (obtain ⟨_, _, _, _, _, _, _, _, _, _, _, rfl, _⟩ := h; rfl) | (obtain ⟨_, _, _, _, _, _, _, _, _, _, _, _, rfl, _⟩ := h; rfl) | (obtain ⟨_, _, _, _, _, _, _, _, _, _, _, _, _, rfl, _⟩ := h; rfl) | (obtain ⟨_, _, _, _, _, _, _, _, _, _, _, _, _, rfl, _⟩ := h; rfl) | (obtain ⟨_, _, _, _, _, _, _, _, _, _, _, _, _, _, rfl, _⟩ := h; rfl) | (obtain ⟨_, _, _, _, _, _, _, _, _, _, _, _, _, _, _, rfl, _⟩ := h; rfl) | (obtain ⟨_, _, _, _, _, _, _, _, _, _, _, _, _, _, _, _, rfl, _⟩ := h; rfl) | (obtain ⟨_, _, _, _, _, _, _, _, _, _, _, _, _, _, _, _, _, rfl, _⟩ := h; rfl) | (obtain ⟨_, _, _, _, _, _, _, _, _, _, _, _, _, _, _, _, _, _, rfl, _⟩ := h; rfl) | (obtain ⟨_, _, _, _, _, _, _, _, _, _, _, _, _, _, _, _, _, _, _, rfl, _⟩ := h; rfl) | (obtain ⟨_, _, _, _, _, _, _, _, _, _, _, _, _, _, _, _, _, _, _, _, rfl, _⟩ := h; rfl) | (obtain ⟨_, _, _, _, _, _, _, _, _, _, _, _, _, _, _, _, _, _, _, _, _, rfl, _⟩ := h; rfl) | (obtain ⟨rfl, _⟩ := h; rfl))
theorem ok_is_pair (T : Txt K mg) : FnOk Pg T.w0 K mg base CX0 1 T.D_is_pair.f T.D_is_pair.d ["thing"] ((spD K (F_is_pair K))) := by
  refine T.D_is_pair.F.ok (k := 0) sc_is_pair (spD_len (len_is_pair K)) (fun cdv A outer s H vs Q E hr h => ?_)
  refine ⟨_, (pss_one (ps_ret (pe_and (pe_callB (call_isiK' (K := K) rfl) (by rfl) T.n_isinstance (by decide +kernel) (pa_cons (pv 0) (pa_cons (pe_bltn (v := .ty "tuple") (u := .type "tuple") (by rfl) T.n_tuple (by decide +kernel) rfl) pa_nil))) (pe_one (pe_cmpR (op_eqDK (K := K) rfl (hr_u hr)) (pe_callB (call_lenK (K := K) rfl) (by rfl) T.n_len (by decide +kernel) (pa_cons (pv 0) pa_nil)) pe_int (nomark _)))))), ?_⟩
  try dsimp only [cxOf, Cx.blk, Cx.nox, Cx.wish]
  (refine body_of h fun W ds P eK f => ?_); subst eK
  obtain ⟨x, rfl, hx, hP⟩ := f
  walk_at "pd"
  by_cases hT : x.isTup = true
  · obtain ⟨xs, rfl⟩ := tup_of hT
    walk_at "pd"
    match xs with
    | [] => exact hP
    | [_] => exact hP
    | [_, _] => exact hP
    | _ :: _ :: _ :: r =>
      rw [decide_eq_false (by simp only [List.length_cons]; omega)]
      exact hP
  · have hT' : x.isTup = false := by simpa using hT
    rw [hT']
    walk_at "pd"
    have e : isPr x = false := by cases x <;> first | rfl | cases hT'
    rw [e] at hP
    exact hP
def F_is_fraction (K : PySem.W.Frag) : FD := fun ds P => ∃ x, ds = [x] ∧ Jd K x ∧ P (.bl (isFr x))
theorem len_is_fraction (K : PySem.W.Frag) : ∀ ds P, (F_is_fraction K) ds P → ds.length = 1 := by (intro ds P h; first | exact h | (obtain ⟨_, rfl, _⟩ := h; rfl) | (obtain ⟨_, _, rfl, _⟩ := h; rfl) | (obtain ⟨_, _, _, rfl, _⟩ := h; rfl) | (obtain ⟨_, _, _, _, rfl, _⟩ := h; rfl) | (obtain ⟨_, _, _, _, _, rfl, _⟩ := h; rfl) | (obtain ⟨_, _, _, _, _, _, rfl, _⟩ := h; rfl) | (obtain ⟨_, _, _, _, _, _, _, rfl, _⟩ := h; rfl) | (obtain ⟨_, _, _, _, _, _, _, _, rfl, _⟩ := h; rfl) | (obtain ⟨_, _, _, _, _, _, _, _, _, rfl, _⟩ := h; rfl) | (obtain ⟨_, _, _, _, _, _, _, _, _, _, rfl, _⟩ := h; rfl) | (obtain ⟨_, _, _, _, _, _, _, _, _, _, _, rfl, _⟩ := h; rfl) | (obtain ⟨_, _, _, _, _, _, _, _, _, _, _, _, rfl, _⟩ := h; rfl) | (obtain ⟨_, _, _, _, _, _, _, _, _, _, _, _, _, rfl, _⟩ := h; rfl) | (obtain ⟨_, _, _, _, _, _, _, _, _, _, _, _, _, rfl, _⟩ := h; rfl) | (obtain ⟨_, _, _, _, _, _, _, _, _, _, _, _, _, _, rfl, _⟩ := h; rfl) | (obtain ⟨_, _, _, _, _, _, _, _, _, _, _, _, _, _, _, rfl, _⟩ := h; rfl) | (obtain ⟨_, _, _, _, _, _, _, _, _, _, _, _, _, _, _, _, rfl, _⟩ := h; rfl) | (obtain ⟨_, _, _, _, _, _, _, _, _, _, _, _, _, _, _, _, _, rfl, _⟩ := h; rfl) | (obtain ⟨_, _, _, _, _, _, _, _, _, _, _, _, _, _, _, _, _, _, rfl, _⟩ := h; rfl) | (obtain ⟨_, _, _, _, _, _, _, _, _, _, _, _, _, _, _, _, _, _, _, rfl, _⟩ := h; rfl) | (obtain ⟨_, _, _, _, _, _, _, _, _, _, _, _, _, _, _, _, _, _, _, _, rfl, _⟩ := h; rfl) | (obtain ⟨_, _, _, _, _, _, _, _, _, _, _, _, _, _, _, _, _, _, _, _, _, rfl, _⟩ := h; rfl) | (obtain ⟨rfl, _⟩ := h; rfl))
theorem ok_is_fraction (T : Txt K mg) : FnOk Pg T.w0 K mg base CX0 2 T.D_is_fraction.f T.D_is_fraction.d ["thing"] ((spD K (F_is_fraction K))) := by
  have G_is_pair := ok_is_pair (Pg := Pg) (base := base) T
  have G_is_whole := ok_is_whole (Pg := Pg) (base := base) T
  refine T.D_is_fraction.F.ok (k := 1) sc_is_fraction (spD_len (len_is_fraction K)) (fun cdv A outer s H vs Q E hr h => ?_)
  refine ⟨_, (pss_cons (ps_if (pt_not (pt_val (pe_call G_is_pair (hr.mono (by decide)) (by rfl) T.D_is_pair.g T.D_is_pair.F.kp T.D_is_pair.b .nil pass0 (pa_cons (pv 0) pa_nil))))
      (pss_one (ps_ret pe_bl))
      pss_nil)
    (pss_cons (ps_asg (pv 0) (by exact (pg_tupK (K := K) (n := 2) rfl rfl (pgs_cons (pg_name (i := 1) sc_is_fraction.nd rfl (by first | exact Or.inl rfl | exact Or.inr rfl)) (pgs_cons (pg_name (i := 2) sc_is_fraction.nd rfl (by first | exact Or.inl rfl | exact Or.inr rfl)) pgs_nil)))))
    (pss_one (ps_ret (pe_and (pe_call G_is_whole (hr.mono (by decide)) (by rfl) T.D_is_whole.g T.D_is_whole.F.kp T.D_is_whole.b .nil pass0 (pa_cons (pv 1) pa_nil)) (pe_and (pe_call G_is_whole (hr.mono (by decide)) (by rfl) T.D_is_whole.g T.D_is_whole.F.kp T.D_is_whole.b .nil pass0 (pa_cons (pv 2) pa_nil)) (pe_and (pe_cmpR op_ge (pv 2) pe_int (nomark _)) (pe_one (pe_cmpR (op_eqDK (K := K) rfl (hr_u hr)) (pe_callBfun cr_gcd (by rfl) T.v_gcd (pa_cons (pv 1) (pa_cons (pv 2) pa_nil))) pe_int (nomark _)))))))))), ?_⟩
  try dsimp only [cxOf, Cx.blk, Cx.nox, Cx.wish]
  (refine body_of h fun W ds P eK f => ?_); subst eK
  obtain ⟨x, rfl, hx, hP⟩ := f
  have ht := jd_ty hx
  walk_at "pd"
  refine ⟨x, rfl, ht, ?_⟩
  walk_at "pd"
  by_cases hT : isPr x = true
  · obtain ⟨a, b, rfl⟩ : ∃ a b, x = .tup [a, b] := by
      unfold isPr at hT
      split at hT
      · exact ⟨_, _, rfl⟩
      · cases hT
    refine bf rfl ?_
    simp only [Jd, JdA] at hx
    have ha := jd_ty hx.1
    have hb := jd_ty hx.2.1
    walk_at "pd"
    refine sd_asgG (ev_var rfl (gd_tup2 (gd_name (gd_name ?_))))
    walk_at "pd"
    refine ⟨_, rfl, ha, ?_⟩
    walk_at "pd"
    refine ⟨fun h1 => ?_, fun h1 => ?_⟩
    · obtain ⟨i, rfl⟩ := isInt_of h1
      walk_at "pd"
      refine ⟨_, rfl, hb, ?_⟩
      walk_at "pd"
      refine ⟨fun h2 => ?_, fun h2 => ?_⟩
      · obtain ⟨j, rfl⟩ := isInt_of h2
        walk_at "pd"
        refine ⟨fun h3 => ?_, fun h3 => ?_⟩
        · walk_at "pd"
          rw [isFr_ints (of_decide_eq_true h3)] at hP
          exact hP
        · rw [isFr_low (of_decide_eq_false h3)] at hP
          exact hP
      · simp only [isFr, h2, Bool.false_and, Bool.and_false] at hP
        exact hP
    · simp only [isFr, h1, Bool.false_and, Bool.and_false] at hP
      exact hP
  · have hT' : isPr x = false := by simpa using hT
    refine bt (by rw [hT']; rfl) ?_
    walk_at "pd"
    have e : isFr x = false := by
      unfold isPr at hT'
      unfold isFr
      split
      · simp at hT'
      · rfl
    rw [e] at hP
    exact hP
def F_is_any_unit (K : PySem.W.Frag) : FD := fun ds P => ∃ x, ds = [x] ∧ Jd K x ∧ P (.bl (isAny x))
theorem len_is_any_unit (K : PySem.W.Frag) : ∀ ds P, (F_is_any_unit K) ds P → ds.length = 1 := by (intro ds P h; first | exact h | (obtain ⟨_, rfl, _⟩ := h; rfl) | (obtain ⟨_, _, rfl, _⟩ := h; rfl) | (obtain ⟨_, _, _, rfl, _⟩ := h; rfl) | (obtain ⟨_, _, _, _, rfl, _⟩ := h; rfl) | (obtain ⟨_, _, _, _, _, rfl, _⟩ := h; rfl) | (obtain ⟨_, _, _, _, _, _, rfl, _⟩ := h; rfl) | (obtain ⟨_, _, _, _, _, _, _, rfl, _⟩ := h; rfl) | (obtain ⟨_, _, _, _, _, _, _, _, rfl, _⟩ := h; rfl) | (obtain ⟨_, _, _, _, _, _, _, _, _, rfl, _⟩ := h; rfl) | (obtain ⟨_, _, _, _, _, _, _, _, _, _, rfl, _⟩ := h; rfl) | (obtain ⟨_, _, _, _, _, _, _, _, _, _, _, rfl, _⟩ := h; rfl) | (obtain ⟨_, _, _, _, _, _, _, _, _, _, _, _, rfl, _⟩ := h; rfl) | (obtain ⟨_, _, _, _, _, _, _, _, _, _, _, _, _, rfl, _⟩ := h; rfl) | (obtain ⟨_, _, _, _, _, _, _, _, _, _, _, _, _, rfl, _⟩ := h; rfl) | (obtain ⟨_, _, _, _, _, _, _, _, _, _, _, _, _, _, rfl, _⟩ := h; rfl) | (obtain ⟨_, _, _, _, _, _, _, _, _, _, _, _, _, _, _, rfl, _⟩ := h; rfl) | (obtain ⟨_, _, _, _, _, _, _, _, _, _, _, _, _, _, _, _, rfl, _⟩ := h; rfl) | (obtain ⟨_, _, _, _, _, _, _, _, _, _, _, _, _, _, _, _, _, rfl, _⟩ := h; rfl) | (obtain ⟨_, _, _, _, _, _, _, _, _, _, _, _, _, _, _, _, _, _, rfl, _⟩ := h; rfl) | (obtain ⟨_, _, _, _, _, _, _, _, _, _, _, _, _, _, _, _, _, _, _, rfl, _⟩ := h; rfl) | (obtain ⟨_, _, _, _, _, _, _, _, _, _, _, _, _, _, _, _, _, _, _, _, rfl, _⟩ := h; rfl) | (obtain ⟨_, _, _, _, _, _, _, _, _, _, _, _, _, _, _, _, _, _, _, _, _, rfl, _⟩ := h; rfl) | (obtain ⟨rfl, _⟩ := h; rfl))
theorem ok_is_any_unit (T : Txt K mg) : FnOk Pg T.w0 K mg base CX0 3 T.D_is_any_unit.f T.D_is_any_unit.d ["thing"] ((spD K (F_is_any_unit K))) := by
  have G_is_fraction := ok_is_fraction (Pg := Pg) (base := base) T
  refine T.D_is_any_unit.F.ok (k := 2) sc_is_any_unit (spD_len (len_is_any_unit K)) (fun cdv A outer s H vs Q E hr h => ?_)
  refine ⟨_, (pss_cons (ps_if (PW.pt (pw_or (pt_not (pt_val (pe_callB (call_isiK' (K := K) rfl) (by rfl) T.n_isinstance (by decide +kernel) (pa_cons (pv 0) (pa_cons (pe_bltn (v := .ty "tuple") (u := .type "tuple") (by rfl) T.n_tuple (by decide +kernel) rfl) pa_nil))))) (pw_or1 (pt_not (pt_chain op_le op_le pe_int (pe_callB (call_lenK (K := K) rfl) (by rfl) T.n_len (by decide +kernel) (pa_cons (pv 0) pa_nil)) (pe_glob (v := .int 3) rfl T.c_MOST_BASES ⟨_, rfl⟩))))))
      (pss_one (ps_ret pe_bl))
      pss_nil)
    (pss_one (ps_ret (pe_callB (cr_allK (K := K) rfl rfl) (by rfl) T.n_all (by decide +kernel) (pa_cons (pe_lc (own := [("exponent", 1)]) rfl sc_is_any_unit.nd (pi_seqK (K := K) rfl (pv 0)) (blkOk_by (N := ["thing", "exponent"]) (sc := defScope s_is_any_unit) (by decide +kernel)) (fun _ _ _ _ _ => (pg_name (i := 1) sc_is_any_unit.nd rfl (by first | exact Or.inl rfl | exact Or.inr rfl))) (fun _ _ _ _ _ => pts_nil) (fun _ _ _ _ _ => (pe_call G_is_fraction (hr.mono (by decide)) (by rfl) T.D_is_fraction.g T.D_is_fraction.F.kp T.D_is_fraction.b .nil pass0 (pa_cons (pv 1) pa_nil)))) pa_nil))))), ?_⟩
  try dsimp only [cxOf, Cx.blk, Cx.nox, Cx.wish]
  (refine body_of h fun W ds P eK f => ?_); subst eK
  obtain ⟨x, rfl, hx, hP⟩ := f
  have ht := jd_ty hx
  walk_at "pd"
  by_cases hT : x.isTup = true
  · obtain ⟨xs, rfl⟩ : ∃ xs, x = .tup xs := by
      cases x <;> first | exact ⟨_, rfl⟩ | cases hT
    simp only [isAny] at hP
    walk_at "pd"
    refine ⟨fun h1 => ?_, fun h1 => ?_⟩
    · have h1' : 1 ≤ xs.length := by have := of_decide_eq_true h1; omega
      rw [decide_eq_true h1'] at hP
      walk_at "pd"
      refine ⟨fun h2 => ?_, fun h2 => ?_⟩
      · have h2' : ¬ xs.length ≤ 3 := by simp at h2; omega
        rw [decide_eq_false h2'] at hP
        walk_at "pd"
        exact hP
      · have h2' : xs.length ≤ 3 := by simp at h2; omega
        rw [decide_eq_true h2'] at hP
        simp only [Jd] at hx
        walk_at "pd"
        refine ev_lcL (it_seqT (ev_var rfl ⟨xs, rfl, by omega, xs.map fun x => .bl (isFr x), by rw [List.length_map], fun i d y hd hy => ?_, ?_⟩))
        · rw [List.getElem?_map, hd] at hy
          cases hy
          refine ⟨[1], by simp, gd_name ?_⟩
          walk_at "pd"
          exact ⟨d, rfl, jd_mem hx (List.mem_of_getElem? hd), rfl⟩
        · walk_at "pd"
          have e : (xs.map fun x => D.bl (isFr x)) = (xs.map isFr).map D.bl := by rw [List.map_map]; rfl
          rw [e]
          refine rc_all ?_
          rw [List.all_map]
          exact hP
    · have h1' : ¬ 1 ≤ xs.length := by have := of_decide_eq_false h1; omega
      rw [decide_eq_false h1'] at hP
      walk_at "pd"
      exact hP
  · have hT' : x.isTup = false := by simpa using hT
    rw [hT']
    walk_at "pd"
    have e : isAny x = false := by cases x <;> first | rfl | cases hT'
    rw [e] at hP
    exact hP
def F_is_unit (K : PySem.W.Frag) : FD := fun ds P => ∃ (n : Int) (x : D), ds = [.int n, x] ∧ Jd K x ∧ P (.bl (isAny x && decide (x.len = n)))
theorem len_is_unit (K : PySem.W.Frag) : ∀ ds P, (F_is_unit K) ds P → ds.length = 2 := by (intro ds P h; first | exact h | (obtain ⟨_, rfl, _⟩ := h; rfl) | (obtain ⟨_, _, rfl, _⟩ := h; rfl) | (obtain ⟨_, _, _, rfl, _⟩ := h; rfl) | (obtain ⟨_, _, _, _, rfl, _⟩ := h; rfl) | (obtain ⟨_, _, _, _, _, rfl, _⟩ := h; rfl) | (obtain ⟨_, _, _, _, _, _, rfl, _⟩ := h; rfl) | (obtain ⟨_, _, _, _, _, _, _, rfl, _⟩ := h; rfl) | (obtain ⟨_, _, _, _, _, _, _, _, rfl, _⟩ := h; rfl) | (obtain ⟨_, _, _, _, _, _, _, _, _, rfl, _⟩ := h; rfl) | (obtain ⟨_, _, _, _, _, _, _, _, _, _, rfl, _⟩ := h; rfl) | (obtain ⟨_, _, _, _, _, _, _, _, _, _, _, rfl, _⟩ := h; rfl) | (obtain ⟨_, _, _, _, _, _, _, _, _, _, _, _, rfl, _⟩ := h; rfl) | (obtain ⟨_, _, _, _, _, _, _, _, _, _, _, _, _, rfl, _⟩ := h; rfl) | (obtain ⟨_, _, _, _, _, _, _, _, _, _, _, _, _, rfl, _⟩ := h; rfl) | (obtain ⟨_, _, _, _, _, _, _, _, _, _, _, _, _, _, rfl, _⟩ := h; rfl) | (obtain ⟨_, _, _, _, _, _, _, _, _, _, _, _, _, _, _, rfl, _⟩ := h; rfl) | (obtain ⟨_, _, _, _, _, _, _, _, _, _, _, _, _, _, _, _, rfl, _⟩ := h; rfl) | (obtain ⟨_, _, _, _, _, _, _, _, _, _, _, _, _, _, _, _, _, rfl, _⟩ := h; rfl) | (obtain ⟨_, _, _, _, _, _, _, _, _, _, _, _, _, _, _, _, _, _, rfl, _⟩ := h; rfl) | (obtain ⟨_, _, _, _, _, _, _, _, _, _, _, _, _, _, _, _, _, _, _, rfl, _⟩ := h; rfl) | (obtain ⟨_, _, _, _, _, _, _, _, _, _, _, _, _, _, _, _, _, _, _, _, rfl, _⟩ := h; rfl) | (obtain ⟨_, _, _, _, _, _, _, _, _, _, _, _, _, _, _, _, _, _, _, _, _, rfl, _⟩ := h; rfl) | (obtain ⟨rfl, _⟩ := h; rfl))
theorem ok_is_unit (T : Txt K mg) : FnOk Pg T.w0 K mg base CX0 4 T.D_is_unit.f T.D_is_unit.d ["bases", "thing"] ((spD K (F_is_unit K))) := by
  have G_is_any_unit := ok_is_any_unit (Pg := Pg) (base := base) T
  refine T.D_is_unit.F.ok (k := 3) sc_is_unit (spD_len (len_is_unit K)) (fun cdv A outer s H vs Q E hr h => ?_)
  refine ⟨_, (pss_one (ps_ret (pe_and (pe_call G_is_any_unit (hr.mono (by decide)) (by rfl) T.D_is_any_unit.g T.D_is_any_unit.F.kp T.D_is_any_unit.b .nil pass0 (pa_cons (pv 1) pa_nil)) (pe_one (pe_cmpR (op_eqDK (K := K) rfl (hr_u hr)) (pe_callB (call_lenK (K := K) rfl) (by rfl) T.n_len (by decide +kernel) (pa_cons (pv 1) pa_nil)) (pv 0) (nomark _)))))), ?_⟩
  try dsimp only [cxOf, Cx.blk, Cx.nox, Cx.wish]
  (refine body_of h fun W ds P eK f => ?_); subst eK
  obtain ⟨n, x, rfl, hx, hP⟩ := f
  walk_at "pd"
  refine ⟨x, rfl, hx, ?_⟩
  walk_at "pd"
  refine ⟨fun h1 => ?_, fun h1 => ?_⟩
  · obtain ⟨xs, rfl⟩ : ∃ xs, x = .tup xs := by
      cases x <;> first | exact ⟨_, rfl⟩ | cases h1
    rw [h1, Bool.true_and] at hP
    walk_at "pd"
    exact hP
  · rw [h1, Bool.false_and] at hP
    exact hP
def F_is_cell (K : PySem.W.Frag) : FD := fun ds P => ∃ (n : Int) (x : D), ds = [.int n, x] ∧ 1 ≤ n ∧ n ≤ 3 ∧ Jd K x ∧ P (.bl (isCl n x))
theorem len_is_cell (K : PySem.W.Frag) : ∀ ds P, (F_is_cell K) ds P → ds.length = 2 := by (intro ds P h; first | exact h | (obtain ⟨_, rfl, _⟩ := h; rfl) | (obtain ⟨_, _, rfl, _⟩ := h; rfl) | (obtain ⟨_, _, _, rfl, _⟩ := h; rfl) | (obtain ⟨_, _, _, _, rfl, _⟩ := h; rfl) | (obtain ⟨_, _, _, _, _, rfl, _⟩ := h; rfl) | (obtain ⟨_, _, _, _, _, _, rfl, _⟩ := h; rfl) | (obtain ⟨_, _, _, _, _, _, _, rfl, _⟩ := h; rfl) | (obtain ⟨_, _, _, _, _, _, _, _, rfl, _⟩ := h; rfl) | (obtain ⟨_, _, _, _, _, _, _, _, _, rfl, _⟩ := h; rfl) | (obtain ⟨_, _, _, _, _, _, _, _, _, _, rfl, _⟩ := h; rfl) | (obtain ⟨_, _, _, _, _, _, _, _, _, _, _, rfl, _⟩ := h; rfl) | (obtain ⟨_, _, _, _, _, _, _, _, _, _, _, _, rfl, _⟩ := h; rfl) | (obtain ⟨_, _, _, _, _, _, _, _, _, _, _, _, _, rfl, _⟩ := h; rfl) | (obtain ⟨_, _, _, _, _, _, _, _, _, _, _, _, _, rfl, _⟩ := h; rfl) | (obtain ⟨_, _, _, _, _, _, _, _, _, _, _, _, _, _, rfl, _⟩ := h; rfl) | (obtain ⟨_, _, _, _, _, _, _, _, _, _, _, _, _, _, _, rfl, _⟩ := h; rfl) | (obtain ⟨_, _, _, _, _, _, _, _, _, _, _, _, _, _, _, _, rfl, _⟩ := h; rfl) | (obtain ⟨_, _, _, _, _, _, _, _, _, _, _, _, _, _, _, _, _, rfl, _⟩ := h; rfl) | (obtain ⟨_, _, _, _, _, _, _, _, _, _, _, _, _, _, _, _, _, _, rfl, _⟩ := h; rfl) | (obtain ⟨_, _, _, _, _, _, _, _, _, _, _, _, _, _, _, _, _, _, _, rfl, _⟩ := h; rfl) | (obtain ⟨_, _, _, _, _, _, _, _, _, _, _, _, _, _, _, _, _, _, _, _, rfl, _⟩ := h; rfl) | (obtain ⟨_, _, _, _, _, _, _, _, _, _, _, _, _, _, _, _, _, _, _, _, _, rfl, _⟩ := h; rfl) | (obtain ⟨rfl, _⟩ := h; rfl))
theorem ok_is_cell (T : Txt K mg) : FnOk Pg T.w0 K mg base CX0 5 T.D_is_cell.f T.D_is_cell.d ["bases", "thing"] ((spD K (F_is_cell K))) := by
  have G_is_unit := ok_is_unit (Pg := Pg) (base := base) T
  refine T.D_is_cell.F.ok (k := 4) sc_is_cell (spD_len (len_is_cell K)) (fun cdv A outer s H vs Q E hr h => ?_)
  refine ⟨_, (pss_cons (ps_if (pt_cmpR op_isN (pv 1) pe_non (nomark _))
      (pss_one (ps_ret pe_bl))
      pss_nil)
    (pss_cons (ps_if (pt_not (pt_val (pe_call G_is_unit (hr.mono (by decide)) (by rfl) T.D_is_unit.g T.D_is_unit.F.kp T.D_is_unit.b .nil pass0 (pa_cons (pv 0) (pa_cons (pv 1) pa_nil)))))
      (pss_one (ps_ret pe_bl))
      pss_nil)
    (pss_one (ps_ret (pe_callB (cr_allK (K := K) rfl rfl) (by rfl) T.n_all (by decide +kernel) (pa_cons (pe_lc (own := [("top", 2), ("below", 3)]) rfl sc_is_cell.nd (pi_seqK (K := K) rfl (pv 1)) (blkOk_by (N := ["bases", "thing", "top", "below"]) (sc := defScope s_is_cell) (by decide +kernel)) (fun _ _ _ _ _ => (by exact (pg_tupK (K := K) (n := 2) rfl rfl (pgs_cons (pg_name (i := 2) sc_is_cell.nd rfl (by first | exact Or.inl rfl | exact Or.inr rfl)) (pgs_cons (pg_name (i := 3) sc_is_cell.nd rfl (by first | exact Or.inl rfl | exact Or.inr rfl)) pgs_nil))))) (fun _ _ _ _ _ => pts_nil) (fun _ _ _ _ _ => (pe_and (pe_chain op_le op_le (pe_un un_neg (pe_glob (v := .int 6) rfl T.c_MOST_TOP ⟨_, rfl⟩)) (pv 2) (pe_glob (v := .int 6) rfl T.c_MOST_TOP ⟨_, rfl⟩)) (pe_one (pe_cmpR op_le (pv 3) (pe_glob (v := .int 4) rfl T.c_MOST_BOTTOM ⟨_, rfl⟩) (nomark _)))))) pa_nil)))))), ?_⟩
  try dsimp only [cxOf, Cx.blk, Cx.nox, Cx.wish]
  (refine body_of h fun W ds P eK f => ?_); subst eK
  obtain ⟨n, x, rfl, h1, h3, hx, hP⟩ := f
  walk_at "pd"
  refine ⟨fun hn => ?_, fun hn => ?_⟩
  · simp only [isCl, hn, Bool.true_or] at hP
    walk_at "pd"
    exact hP
  · simp only [isCl, hn, Bool.false_or] at hP
    walk_at "pd"
    refine ⟨n, x, rfl, hx, ?_⟩
    rw [is_un h1 h3]
    walk_at "pd"
    by_cases hu : isUn n x = true
    · obtain ⟨u, rfl, hl, hf⟩ := isUn_of hu
      rw [hu, Bool.true_and] at hP
      refine bf (by rw [hu]; rfl) ?_
      walk_at "pd"
      refine ev_lcL (it_seqT (ev_var rfl ⟨u.map fr, rfl, by rw [List.length_map]; omega, (u.map fr).map fun e => .bl (exOk e), by rw [List.length_map], fun i d y hd hy => ?_, ?_⟩))
      · rw [List.getElem?_map, hd] at hy
        cases hy
        obtain ⟨p, _, rfl⟩ := List.mem_map.mp (List.mem_of_getElem? hd)
        refine ⟨[2] ++ [3], by simp, gd_tup2 (gd_name (gd_name ?_))⟩
        walk_at "pd"
        refine ⟨fun q1 => ?_, fun q1 => ?_⟩
        · walk_at "pd"
          refine ⟨fun q2 => ?_, fun q2 => ?_⟩
          · walk_at "pd"
            show D.bl _ = D.bl (decide (-6 ≤ p.1) && decide (p.1 ≤ 6) && decide (p.2 ≤ 4))
            rw [q1, q2]
            rfl
          · show D.bl false = D.bl (decide (-6 ≤ p.1) && decide (p.1 ≤ 6) && decide (p.2 ≤ 4))
            rw [q1, q2]
            rfl
        · walk_at "pd"
          show _ = D.bl (decide (-6 ≤ p.1) && decide (p.1 ≤ 6) && decide (p.2 ≤ 4))
          rw [q1]
          rfl
      · walk_at "pd"
        have e : ((u.map fr).map fun e => D.bl (exOk e)) = ((u.map fr).map exOk).map D.bl := by simp only [List.map_map, Function.comp_def]
        rw [e]
        refine rc_all ?_
        rw [List.all_map]
        exact hP
    · have hu' : isUn n x = false := by simpa using hu
      rw [hu', Bool.false_and] at hP
      refine bt (by rw [hu']; rfl) ?_
      walk_at "pd"
      exact hP
def F__wrong_part (K : PySem.W.Frag) : FD := fun ds P => ∃ b x, ds = [b, x] ∧ Jd K b ∧ Jd K x ∧ P (wrongD b x)
theorem len__wrong_part (K : PySem.W.Frag) : ∀ ds P, (F__wrong_part K) ds P → ds.length = 2 := by (intro ds P h; first | exact h | (obtain ⟨_, rfl, _⟩ := h; rfl) | (obtain ⟨_, _, rfl, _⟩ := h; rfl) | (obtain ⟨_, _, _, rfl, _⟩ := h; rfl) | (obtain ⟨_, _, _, _, rfl, _⟩ := h; rfl) | (obtain ⟨_, _, _, _, _, rfl, _⟩ := h; rfl) | (obtain ⟨_, _, _, _, _, _, rfl, _⟩ := h; rfl) | (obtain ⟨_, _, _, _, _, _, _, rfl, _⟩ := h; rfl) | (obtain ⟨_, _, _, _, _, _, _, _, rfl, _⟩ := h; rfl) | (obtain ⟨_, _, _, _, _, _, _, _, _, rfl, _⟩ := h; rfl) | (obtain ⟨_, _, _, _, _, _, _, _, _, _, rfl, _⟩ := h; rfl) | (obtain ⟨_, _, _, _, _, _, _, _, _, _, _, rfl, _⟩ := h; rfl) | (obtain ⟨_, _, _, _, _, _, _, _, _, _, _, _, rfl, _⟩ := h; rfl) | (obtain ⟨_, _, _, _, _, _, _, _, _, _, _, _, _, rfl, _⟩ := h; rfl) | (obtain ⟨_, _, _, _, _, _, _, _, _, _, _, _, _, rfl, _⟩ := h; rfl) | (obtain ⟨_, _, _, _, _, _, _, _, _, _, _, _, _, _, rfl, _⟩ := h; rfl) | (obtain ⟨_, _, _, _, _, _, _, _, _, _, _, _, _, _, _, rfl, _⟩ := h; rfl) | (obtain ⟨_, _, _, _, _, _, _, _, _, _, _, _, _, _, _, _, rfl, _⟩ := h; rfl) | (obtain ⟨_, _, _, _, _, _, _, _, _, _, _, _, _, _, _, _, _, rfl, _⟩ := h; rfl) | (obtain ⟨_, _, _, _, _, _, _, _, _, _, _, _, _, _, _, _, _, _, rfl, _⟩ := h; rfl) | (obtain ⟨_, _, _, _, _, _, _, _, _, _, _, _, _, _, _, _, _, _, _, rfl, _⟩ := h; rfl) | (obtain ⟨_, _, _, _, _, _, _, _, _, _, _, _, _, _, _, _, _, _, _, _, rfl, _⟩ := h; rfl) | (obtain ⟨_, _, _, _, _, _, _, _, _, _, _, _, _, _, _, _, _, _, _, _, _, rfl, _⟩ := h; rfl) | (obtain ⟨rfl, _⟩ := h; rfl))
theorem ok__wrong_part (T : Txt K mg) : FnOk Pg T.w0 K mg base CX0 6 T.D__wrong_part.f T.D__wrong_part.d ["bases", "rows"] ((spD K (F__wrong_part K))) := by
  have G__has_grid_length := ok__has_grid_length (Pg := Pg) (base := base) T
  have G_is_cell := ok_is_cell (Pg := Pg) (base := base) T
  have G_is_whole := ok_is_whole (Pg := Pg) (base := base) T
  refine T.D__wrong_part.F.ok (k := 5) sc__wrong_part (spD_len (len__wrong_part K)) (fun cdv A outer s H vs Q E hr h => ?_)
  refine ⟨_, (pss_cons (ps_if (PW.pt (pw_or (pt_not (pt_val (pe_call G_is_whole (hr.mono (by decide)) (by rfl) T.D_is_whole.g T.D_is_whole.F.kp T.D_is_whole.b .nil pass0 (pa_cons (pv 0) pa_nil)))) (pw_or1 (pt_not (pt_chain op_le op_le pe_int (pv 0) (pe_glob (v := .int 3) rfl T.c_MOST_BASES ⟨_, rfl⟩))))))
      (pss_one (ps_ret pe_str))
      pss_nil)
    (pss_cons (ps_if (pt_not (pt_val (pe_call G__has_grid_length (hr.mono (by decide)) (by rfl) T.D__has_grid_length.g T.D__has_grid_length.F.kp T.D__has_grid_length.b .nil pass0 (pa_cons (pv 1) pa_nil))))
      (pss_one (ps_ret pe_str))
      pss_nil)
    (pss_cons (ps_for PassesOwn.never rfl (pi_enumT (K := K) rfl (by rfl) T.n_enumerate (pa_cons (pv 1) pa_nil)) (by exact (pg_tupK (K := K) (n := 2) rfl rfl (pgs_cons (pg_name (i := 2) sc__wrong_part.nd rfl (by first | exact Or.inl rfl | exact Or.inr rfl)) (pgs_cons (pg_name (i := 3) sc__wrong_part.nd rfl (by first | exact Or.inl rfl | exact Or.inr rfl)) pgs_nil))))
      (pss_one (ps_if (PW.pt (pw_or (pt_not (pt_val (pe_call G__has_grid_length (hr.mono (by decide)) (by rfl) T.D__has_grid_length.g T.D__has_grid_length.F.kp T.D__has_grid_length.b .nil pass0 (pa_cons (pv 3) pa_nil)))) (pw_or1 (pt_cmpR (op_neDK (K := K) rfl (hr_u hr)) (pe_callB (call_lenK (K := K) rfl) (by rfl) T.n_len (by decide +kernel) (pa_cons (pv 3) pa_nil)) (pe_callB (call_lenK (K := K) rfl) (by rfl) T.n_len (by decide +kernel) (pa_cons (pe_ix (ix_seqK (K := K) rfl) (pv 1) pe_int (fun _ _ => rfl)) pa_nil)) (nomark _)))))
      (pss_one (ps_ret (pe_tup (pa_cons (pv 2) pa_nil))))
      pss_nil)))
    (pss_cons (ps_for PassesOwn.never rfl (pi_enumT (K := K) rfl (by rfl) T.n_enumerate (pa_cons (pv 1) pa_nil)) (by exact (pg_tupK (K := K) (n := 2) rfl rfl (pgs_cons (pg_name (i := 2) sc__wrong_part.nd rfl (by first | exact Or.inl rfl | exact Or.inr rfl)) (pgs_cons (pg_name (i := 3) sc__wrong_part.nd rfl (by first | exact Or.inl rfl | exact Or.inr rfl)) pgs_nil))))
      (pss_one (ps_for PassesOwn.never rfl (pi_enumT (K := K) rfl (by rfl) T.n_enumerate (pa_cons (pv 3) pa_nil)) (by exact (pg_tupK (K := K) (n := 2) rfl rfl (pgs_cons (pg_name (i := 4) sc__wrong_part.nd rfl (by first | exact Or.inl rfl | exact Or.inr rfl)) (pgs_cons (pg_name (i := 5) sc__wrong_part.nd rfl (by first | exact Or.inl rfl | exact Or.inr rfl)) pgs_nil))))
      (pss_one (ps_if (pt_not (pt_val (pe_call G_is_cell (hr.mono (by decide)) (by rfl) T.D_is_cell.g T.D_is_cell.F.kp T.D_is_cell.b .nil pass0 (pa_cons (pv 0) (pa_cons (pv 5) pa_nil)))))
      (pss_one (ps_ret (pe_tup (pa_cons (pv 2) (pa_cons (pv 4) pa_nil)))))
      pss_nil)))))
    (pss_one (ps_ret pe_non)))))), ?_⟩
  try dsimp only [cxOf, Cx.blk, Cx.nox, Cx.wish]
  (refine body_of h fun W ds P eK f => ?_); subst eK
  obtain ⟨b, x, rfl, hb, hx, hP⟩ := f
  have tb := jd_ty hb
  have tx := jd_ty hx
  walk_at "pd"
  refine ⟨b, rfl, tb, ?_⟩
  walk_at "pd"
  refine ⟨fun h1 => ?_, fun h1 => ?_⟩
  · have h1' : b.isInt = true := by simpa using h1
    obtain ⟨n, rfl⟩ := isInt_of h1'
    walk_at "pd"
    refine ⟨fun q1 => ?_, fun q1 => ?_⟩
    · walk_at "pd"
      refine ⟨fun q3 => ?_, fun q3 => ?_⟩
      · have q3' : decide (n ≤ 3) = false := by simpa using q3
        have e : wrongD (.int n) x = .str "bases" := wrongD_out fun z => (of_decide_eq_false q3') z.2.2
        rw [e] at hP
        walk_at "pd"
        exact hP
      · have q3' : decide (n ≤ 3) = true := by simpa using q3
        have n1 := of_decide_eq_true q1
        have n3 := of_decide_eq_true q3'
        rw [wrongD_in n1 n3] at hP
        walk_at "pd"
        refine ⟨x, rfl, tx, ?_⟩
        walk_at "pd"
        refine ⟨fun hl => ?_, fun hl => ?_⟩
        · have hl' : hasLen x = false := by simpa using hl
          rw [hl', if_neg Bool.false_ne_true] at hP
          walk_at "pd"
          exact hP
        · have hl' : hasLen x = true := by simpa using hl
          rw [hl', if_pos rfl] at hP
          obtain ⟨xs, rfl, l1, l10⟩ := hasLen_of hl'
          simp only [items] at hP
          simp only [Jd] at hx
          walk_at "pd"
          refine sd_for (it_enumT ?_)
          walk_at "pd"
          refine ⟨_, rfl, fun i δ => (∃ a b c d, δ = [some (.int n), some (.tup xs), a, b, c, d]) ∧ ∀ j, j < i → ∀ e, xs[j]? = some e → badRow xs e = false, ⟨⟨none, none, none, none, rfl⟩, fun j hj => absurd hj (Nat.not_lt_zero j)⟩, fun i d δ hd hI => ?_, fun δ hI => ?_⟩
          · obtain ⟨⟨a, b, c, d', rfl⟩, hI⟩ := hI
            obtain ⟨e, he, rfl⟩ := enumD_get hd
            have je := jd_mem hx (List.mem_of_getElem? he)
            refine ⟨_, gd_tup2 (gd_name (gd_name ?_))⟩
            walk_at "pd"
            refine ⟨e, rfl, jd_ty je, ?_⟩
            walk_at "pd"
            have bad : badRow xs e = true → P (.tup [.int (i : Int)]) := fun hb => by
              unfold wrongR at hP
              rw [find_some hI he hb] at hP
              exact hP
            by_cases hle : hasLen e = true
            · obtain ⟨cs, rfl, c1, c10⟩ := hasLen_of hle
              obtain ⟨r0, h0, hr0, eh⟩ := bad_row0 hI he hle
              obtain ⟨ds, rfl, d1, d10⟩ := hasLen_of hr0
              refine bof (by rw [hle]; rfl) ?_
              walk_at "pd"
              refine rd_ixT (j := 0) rfl h0 ?_
              walk_at "pd"
              refine ⟨fun q => ?_, fun q => ?_⟩
              · walk_at "pd"
                refine bad ?_
                rw [badRow_tup hle eh]
                exact q
              · walk_at "pd"
                refine ⟨⟨_, _, _, _, rfl⟩, fun j hj e2 he2 => ?_⟩
                by_cases hji : j = i
                · subst hji
                  rw [he] at he2
                  cases he2
                  rw [badRow_tup hle eh]
                  exact q
                · exact hI j (by omega) e2 he2
            · have hle' : hasLen e = false := by simpa using hle
              refine bot (by rw [hle']; rfl) ?_
              walk_at "pd"
              refine bad ?_
              unfold badRow
              rw [hle']
              rfl
          · obtain ⟨⟨a, b, c, d', rfl⟩, hI⟩ := hI
            rw [enumD_length] at hI
            have hn := find_none (p := badRow xs) (xs := xs) fun j e he => hI j (List.getElem?_eq_some_iff.mp he).1 e he
            unfold wrongR at hP
            rw [hn] at hP
            simp only at hP
            walk_at "pd"
            refine sd_for (it_enumT ?_)
            walk_at "pd"
            refine ⟨_, rfl, fun i δ => (∃ a b c d, δ = [some (.int n), some (.tup xs), a, b, c, d]) ∧ ∀ j, j < i → ∀ e, xs[j]? = some e → badIn n e = false, ⟨⟨_, _, _, _, rfl⟩, fun j hj => absurd hj (Nat.not_lt_zero j)⟩, fun i d δ hd hJ => ?_, fun δ hJ => ?_⟩
            · obtain ⟨⟨a, b, c, d', rfl⟩, hJ⟩ := hJ
              obtain ⟨e, he, rfl⟩ := enumD_get hd
              have je := jd_mem hx (List.mem_of_getElem? he)
              have ok := hI i (List.getElem?_eq_some_iff.mp he).1 e he
              unfold badRow at ok
              simp only [Bool.or_eq_false_iff, Bool.not_eq_false'] at ok
              obtain ⟨cs, rfl, c1, c10⟩ := hasLen_of ok.1
              simp only [Jd] at je
              refine ⟨_, gd_tup2 (gd_name (gd_name ?_))⟩
              refine sd_for (it_enumT ?_)
              walk_at "pd"
              refine ⟨_, rfl, fun k δ => (∃ c d, δ = [some (.int n), some (.tup xs), some (.int (i : Int)), some (.tup cs), c, d]) ∧ ∀ j, j < k → ∀ e, cs[j]? = some e → isCl n e = true, ⟨⟨_, _, rfl⟩, fun j hj => absurd hj (Nat.not_lt_zero j)⟩, fun k d δ hd hK => ?_, fun δ hK => ?_⟩
              · obtain ⟨⟨c, d', rfl⟩, hK⟩ := hK
                obtain ⟨y, hy, rfl⟩ := enumD_get hd
                have jy := jd_mem je (List.mem_of_getElem? hy)
                refine ⟨_, gd_tup2 (gd_name (gd_name ?_))⟩
                walk_at "pd"
                refine ⟨n, y, rfl, n1, n3, jy, ?_⟩
                walk_at "pd"
                refine ⟨fun q => ?_, fun q => ?_⟩
                · have q' : isCl n y = false := by simpa using q
                  walk_at "pd"
                  have b1 : badIn n (.tup cs) = true := by
                    unfold badIn
                    rw [List.any_eq_true]
                    exact ⟨y, List.mem_of_getElem? hy, by rw [q']; rfl⟩
                  unfold wrongC at hP
                  rw [find_some hJ he b1] at hP
                  simp only [List.getD_eq_getElem?_getD, he, Option.getD_some, items] at hP
                  rw [find_some (p := fun c => !isCl n c) (i := k) (d := y) (fun j hj e2 he2 => by rw [hK j hj e2 he2]; rfl) hy (by rw [q']; rfl)] at hP
                  exact hP
                · have q' : isCl n y = true := by simpa using q
                  walk_at "pd"
                  refine ⟨⟨_, _, rfl⟩, fun j hj e2 he2 => ?_⟩
                  by_cases hji : j = k
                  · subst hji
                    rw [hy] at he2
                    cases he2
                    exact q'
                  · exact hK j (by omega) e2 he2
              · obtain ⟨⟨c, d', rfl⟩, hK⟩ := hK
                rw [enumD_length] at hK
                refine ⟨⟨_, _, _, _, rfl⟩, fun j hj e2 he2 => ?_⟩
                by_cases hji : j = i
                · subst hji
                  rw [he] at he2
                  cases he2
                  unfold badIn
                  rw [List.any_eq_false]
                  intro y hy
                  obtain ⟨k, hk, rfl⟩ := List.mem_iff_getElem.mp hy
                  rw [hK k hk _ (List.getElem?_eq_getElem hk)]
                  exact Bool.false_ne_true
                · exact hJ j (by omega) e2 he2
            · obtain ⟨⟨a, b, c, d', rfl⟩, hJ⟩ := hJ
              rw [enumD_length] at hJ
              have hm := find_none (p := badIn n) (xs := xs) fun j e he => hJ j (List.getElem?_eq_some_iff.mp he).1 e he
              unfold wrongC at hP
              rw [hm] at hP
              walk_at "pd"
              exact hP
    · have e : wrongD (.int n) x = .str "bases" := wrongD_out fun z => (of_decide_eq_false q1) z.2.1
      rw [e] at hP
      walk_at "pd"
      exact hP
  · have h1' : b.isInt = false := by simpa using h1
    have e : wrongD b x = .str "bases" := wrongD_out fun z => by rw [h1'] at z; cases z.1
    rw [e] at hP
    walk_at "pd"
    exact hP
theorem ok_BadGrid___init__ (T : Txt K mg) : FnOk Pg T.w0 K mg base CX0 1 T.D_BadGrid___init__.f T.D_BadGrid___init__.d ["self", "part"] (spI1 K "part") := by
  refine T.D_BadGrid___init__.F.ok (k := 0) sc_BadGrid___init__ (fun vs H Q E h => by obtain ⟨_, _, _, rfl, _⟩ := h; rfl) (fun cdv A outer s H vs Q E hr h => ?_)
  refine ⟨_, (pss_one (ps_ost (pv 0) (pv 1))), ?_⟩
  try dsimp only [cxOf, Cx.blk, Cx.nox, Cx.wish]
  obtain ⟨a, C, y, rfl, hC, hf, e, q⟩ := h
  refine ⟨y, rfl, .ref a, rfl, a, C, rfl, hC, hf, .inl ⟨e, fun dx h1 h2 => ?_⟩⟩
  exact q dx h1 h2
theorem isNon_of {x : D} (h : x.isNon = true) : x = .non := by cases x <;> first | rfl | cases h
def F_Grid___init__ {K : PySem.W.Frag} {mg : Str → Option Value} (T : Txt K mg) : FI := fun C ds P X => ∃ b x, C = T.k_Grid.C ∧ ds = [b, x] ∧ Jd K b ∧ Jd K x ∧ (wrongD b x = .non → P ["bases", "rows"] [b, x]) ∧ (wrongD b x ≠ .non → X (T.x_BadGrid.C, [("part", wrongD b x)]))
theorem len_Grid___init__ {K : PySem.W.Frag} {mg : Str → Option Value} (T : Txt K mg) : ∀ C ds P X, (F_Grid___init__ T) C ds P X → ds.length + 1 = 3 := by (intro C ds P X h; first | exact congrArg (· + 1) h | (obtain ⟨_, rfl, _⟩ := h; rfl) | (obtain ⟨_, _, rfl, _⟩ := h; rfl) | (obtain ⟨_, _, _, rfl, _⟩ := h; rfl) | (obtain ⟨_, _, _, _, rfl, _⟩ := h; rfl) | (obtain ⟨rfl, _⟩ := h; rfl))
theorem ok_Grid___init__ (T : Txt K mg) : FnOk Pg T.w0 K mg base (L2.CX Pg T.w0) 7 T.D_Grid___init__.f T.D_Grid___init__.d ["self", "bases", "rows"] (spInit K (F_Grid___init__ T)) := by
  have G_BadGrid___init__ := ok_BadGrid___init__ (Pg := Pg) (base := base) T
  have G__wrong_part := ok__wrong_part (Pg := Pg) (base := base) T
  refine T.D_Grid___init__.F.okX (k := 6) sc_Grid___init__ (spInit_len (len_Grid___init__ T)) (fun cdv A outer s H vs Q E hr h => ?_)
  refine ⟨_, (pss_cons (ps_set (i := 3) sc_Grid___init__.nd rfl (by first | exact Or.inl rfl | exact Or.inr rfl) (pe_call G__wrong_part (hr.mono (by decide)) (by rfl) T.D__wrong_part.g T.D__wrong_part.F.kp T.D__wrong_part.b .nil pass0 (pa_cons (pv 1) (pa_cons (pv 2) pa_nil))))
    (pss_cons (ps_if (pt_cmpR op_notN (pv 3) pe_non (nomark _))
      (pss_one (ps_raise rfl (takes_of rfl rfl rfl rfl) (pmk_oex T.x_BadGrid.o T.x_BadGrid.i T.ty_BadGrid___init__ G_BadGrid___init__ (hr.mono (by decide)) T.D_BadGrid___init__.b .nil pass0 (by rfl) T.x_BadGrid.g (pa_cons (pv 3) pa_nil))))
      pss_nil)
    (pss_cons (ps_fld (pv 0) (pv 1) (by rfl))
    (pss_one (ps_fld (pv 0) (pv 2) (by rfl)))))), ?_⟩
  try dsimp only [cxOf, Cx.blk, Cx.nox, Cx.wish]
  refine init_body2 h (by decide) fun W C x ds P X eK f => ?_
  subst eK
  obtain ⟨b, y, rfl, rfl, jb, jy, hP, hX⟩ := f
  refine ⟨T.k_Grid.o.cl, T.na_Grid_bases, T.na_Grid_rows, ?_⟩
  walk_at "pd"
  refine ⟨b, y, rfl, jb, jy, ?_⟩
  walk_at "pd"
  refine ⟨fun q => ?_, fun q => ?_⟩
  · refine sx_raise1 T.x_BadGrid.o T.nx_BadGrid_part ?_
    walk_at "pd"
    refine ⟨_, rfl, hX fun z => ?_⟩
    rw [z] at q
    cases q
  · walk_at "pd"
    exact ⟨_, _, rfl, rfl, rfl, hP (isNon_of (by simpa using q))⟩
def F__law_grid {K : PySem.W.Frag} {mg : Str → Option Value} (T : Txt K mg) : FD := fun ds P => ∃ (n : Nat) (g : D), ds = [.int n, g] ∧ GridP n g ∧ 1 ≤ n ∧ n ≤ 3 ∧ P (gd T.k_Grid.C n (gridU g))
theorem len__law_grid {K : PySem.W.Frag} {mg : Str → Option Value} (T : Txt K mg) : ∀ ds P, (F__law_grid T) ds P → ds.length = 2 := by (intro ds P h; first | exact h | (obtain ⟨_, rfl, _⟩ := h; rfl) | (obtain ⟨_, _, rfl, _⟩ := h; rfl) | (obtain ⟨_, _, _, rfl, _⟩ := h; rfl) | (obtain ⟨_, _, _, _, rfl, _⟩ := h; rfl) | (obtain ⟨_, _, _, _, _, rfl, _⟩ := h; rfl) | (obtain ⟨_, _, _, _, _, _, rfl, _⟩ := h; rfl) | (obtain ⟨_, _, _, _, _, _, _, rfl, _⟩ := h; rfl) | (obtain ⟨_, _, _, _, _, _, _, _, rfl, _⟩ := h; rfl) | (obtain ⟨_, _, _, _, _, _, _, _, _, rfl, _⟩ := h; rfl) | (obtain ⟨_, _, _, _, _, _, _, _, _, _, rfl, _⟩ := h; rfl) | (obtain ⟨_, _, _, _, _, _, _, _, _, _, _, rfl, _⟩ := h; rfl) | (obtain ⟨_, _, _, _, _, _, _, _, _, _, _, _, rfl, _⟩ := h; rfl) | (obtain ⟨_, _, _, _, _, _, _, _, _, _, _, _, _, rfl, _⟩ := h; rfl) | (obtain ⟨_, _, _, _, _, _, _, _, _, _, _, _, _, rfl, _⟩ := h; rfl) | (obtain ⟨_, _, _, _, _, _, _, _, _, _, _, _, _, _, rfl, _⟩ := h; rfl) | (obtain ⟨_, _, _, _, _, _, _, _, _, _, _, _, _, _, _, rfl, _⟩ := h; rfl) | (obtain ⟨_, _, _, _, _, _, _, _, _, _, _, _, _, _, _, _, rfl, _⟩ := h; rfl) | (obtain ⟨_, _, _, _, _, _, _, _, _, _, _, _, _, _, _, _, _, rfl, _⟩ := h; rfl) | (obtain ⟨_, _, _, _, _, _, _, _, _, _, _, _, _, _, _, _, _, _, rfl, _⟩ := h; rfl) | (obtain ⟨_, _, _, _, _, _, _, _, _, _, _, _, _, _, _, _, _, _, _, rfl, _⟩ := h; rfl) | (obtain ⟨_, _, _, _, _, _, _, _, _, _, _, _, _, _, _, _, _, _, _, _, rfl, _⟩ := h; rfl) | (obtain ⟨_, _, _, _, _, _, _, _, _, _, _, _, _, _, _, _, _, _, _, _, _, rfl, _⟩ := h; rfl) | (obtain ⟨rfl, _⟩ := h; rfl))
theorem ok__law_grid (T : Txt K mg) : FnOk Pg T.w0 K mg base CX0 9 T.D__law_grid.f T.D__law_grid.d ["bases", "rows"] ((spD K (F__law_grid T))) := by
  have G_Grid___init__ := ok_Grid___init__ (Pg := Pg) (base := base) T
  have G__law_unit := ok__law_unit (Pg := Pg) (base := base) T
  refine T.D__law_grid.F.ok (k := 8) sc__law_grid (spD_len (len__law_grid T)) (fun cdv A outer s H vs Q E hr h => ?_)
  refine ⟨_, (pss_one (ps_ret (pe_make T.k_Grid.m G_Grid___init__ (hr.mono (by decide)) (by rfl) T.k_Grid.g T.D_Grid___init__.b .nil passF (pa_cons (pv 0) (pa_cons (pe_callTy (call_tuple_ofK (K := K) rfl) (by rfl) T.n_tuple (by decide +kernel) (pa_cons (pe_lc (own := [("row", 2)]) rfl sc__law_grid.nd (pi_seqK (K := K) rfl (pv 1)) (blkOk_by (N := ["bases", "rows", "row", "cell"]) (sc := defScope s__law_grid) (by decide +kernel)) (fun _ _ _ _ _ => (pg_name (i := 2) sc__law_grid.nd rfl (by first | exact Or.inl rfl | exact Or.inr rfl))) (fun _ _ _ _ _ => pts_nil) (fun _ _ _ _ _ => (pe_callTy (call_tuple_ofK (K := K) rfl) (by rfl) T.n_tuple (by decide +kernel) (pa_cons (pe_lc (own := [("cell", 3)]) rfl sc__law_grid.nd (pi_seqK (K := K) rfl (pv 2)) (by exact blkOk_by (N := ["bases", "rows", "row", "cell"]) (by kernel_rfl)) (fun _ _ _ _ _ => (pg_name (i := 3) sc__law_grid.nd rfl (by first | exact Or.inl rfl | exact Or.inr rfl))) (fun _ _ _ _ _ => pts_nil) (fun _ _ _ _ _ => (pe_call G__law_unit (hr.mono (by decide)) (by rfl) T.D__law_unit.g T.D__law_unit.F.kp T.D__law_unit.b .nil pass0 (pa_cons (pv 3) pa_nil)))) pa_nil)))) pa_nil)) pa_nil))))), ?_⟩
  try dsimp only [cxOf, Cx.blk, Cx.nox, Cx.wish]
  (refine body_of h fun W ds P eK f => ?_); subst eK
  obtain ⟨n, g, rfl, hg, n1, n3, hP⟩ := f
  obtain ⟨w, gr, w3, w1, l3⟩ := hg.grd n1 n3
  obtain ⟨rows, w', rfl, r1, r3, w1', w3', hr⟩ := hg
  walk_at "pd"
  refine ev_lcL (it_seqL (ev_var rfl ⟨rows, rfl, by omega, rows.map rowU, by rw [List.length_map], fun i d y hd hy => ?_, ?_⟩))
  · rw [List.getElem?_map, hd] at hy
    cases hy
    obtain ⟨cs, rfl, lc, hc⟩ := hr d (List.mem_of_getElem? hd)
    refine ⟨[2], by simp, gd_name ?_⟩
    walk_at "pd"
    refine ev_lcL (it_seqL (ev_var rfl ⟨cs, rfl, by omega, cs.map cellU, by rw [List.length_map], fun j d y hd hy => ?_, ?_⟩))
    · rw [List.getElem?_map, hd] at hy
      cases hy
      refine ⟨[3], by simp, gd_name ?_⟩
      walk_at "pd"
      exact ⟨n, d, rfl, hc d (List.mem_of_getElem? hd), n3, rfl⟩
    · walk_at "pd"
      rfl
  · walk_at "pd"
    exact ⟨_, _, rfl, rfl, by simp only [Jd], gr.jd, fun _ => hP, fun z => absurd gr.wrong z⟩
def F__shape_of_two : FD := fun ds P => ∃ (k : Str) (a b : Sh), ds = [.str k, shD a, shD b] ∧ (D.str k).fine = true ∧ P (optSh (twoD k a b))
theorem len__shape_of_two : ∀ ds P, F__shape_of_two ds P → ds.length = 3 := by (intro ds P h; first | exact h | (obtain ⟨_, rfl, _⟩ := h; rfl) | (obtain ⟨_, _, rfl, _⟩ := h; rfl) | (obtain ⟨_, _, _, rfl, _⟩ := h; rfl) | (obtain ⟨_, _, _, _, rfl, _⟩ := h; rfl) | (obtain ⟨_, _, _, _, _, rfl, _⟩ := h; rfl) | (obtain ⟨_, _, _, _, _, _, rfl, _⟩ := h; rfl) | (obtain ⟨_, _, _, _, _, _, _, rfl, _⟩ := h; rfl) | (obtain ⟨_, _, _, _, _, _, _, _, rfl, _⟩ := h; rfl) | (obtain ⟨_, _, _, _, _, _, _, _, _, rfl, _⟩ := h; rfl) | (obtain ⟨_, _, _, _, _, _, _, _, _, _, rfl, _⟩ := h; rfl) | (obtain ⟨_, _, _, _, _, _, _, _, _, _, _, rfl, _⟩ := h; rfl) | (obtain ⟨_, _, _, _, _, _, _, _, _, _, _, _, rfl, _⟩ := h; rfl) | (obtain ⟨_, _, _, _, _, _, _, _, _, _, _, _, _, rfl, _⟩ := h; rfl) | (obtain ⟨_, _, _, _, _, _, _, _, _, _, _, _, _, rfl, _⟩ := h; rfl) | (obtain ⟨_, _, _, _, _, _, _, _, _, _, _, _, _, _, rfl, _⟩ := h; rfl) | (obtain ⟨_, _, _, _, _, _, _, _, _, _, _, _, _, _, _, rfl, _⟩ := h; rfl) | (obtain ⟨_, _, _, _, _, _, _, _, _, _, _, _, _, _, _, _, rfl, _⟩ := h; rfl) | (obtain ⟨_, _, _, _, _, _, _, _, _, _, _, _, _, _, _, _, _, rfl, _⟩ := h; rfl) | (obtain ⟨_, _, _, _, _, _, _, _, _, _, _, _, _, _, _, _, _, _, rfl, _⟩ := h; rfl) | (obtain ⟨_, _, _, _, _, _, _, _, _, _, _, _, _, _, _, _, _, _, _, rfl, _⟩ := h; rfl) | (obtain ⟨_, _, _, _, _, _, _, _, _, _, _, _, _, _, _, _, _, _, _, _, rfl, _⟩ := h; rfl) | (obtain ⟨_, _, _, _, _, _, _, _, _, _, _, _, _, _, _, _, _, _, _, _, _, rfl, _⟩ := h; rfl) | (obtain ⟨rfl, _⟩ := h; rfl))
theorem ok__shape_of_two (T : Txt K mg) : FnOk Pg T.w0 K mg base CX0 1 T.D__shape_of_two.f T.D__shape_of_two.d ["kind", "one", "other"] ((spD K F__shape_of_two)) := by
  refine T.D__shape_of_two.F.ok (k := 0) sc__shape_of_two (spD_len (len__shape_of_two)) (fun cdv A outer s H vs Q E hr h => ?_)
  refine ⟨_, (pss_cons (ps_if (pt_cmpR (op_eqDK (K := K) rfl (hr_u hr)) (pv 0) pe_str (nomark _))
      (pss_one (ps_ret (pe_ifExp (pt_cmpR (op_eqDK (K := K) rfl (hr_u hr)) (pv 1) (pv 2) (nomark _)) (pv 1) pe_non)))
      pss_nil)
    (pss_cons (ps_if (pt_cmpR (op_eqDK (K := K) rfl (hr_u hr)) (pv 0) pe_str (nomark _))
      (pss_one (ps_ret (pe_ifExp (pt_cmpR (op_eqDK (K := K) rfl (hr_u hr)) (pe_ix (ix_seqK (K := K) rfl) (pv 1) pe_int (fun _ _ => rfl)) (pe_ix (ix_seqK (K := K) rfl) (pv 2) pe_int (fun _ _ => rfl)) (nomark _)) (pe_tup (pa_cons (pe_ix (ix_seqK (K := K) rfl) (pv 1) pe_int (fun _ _ => rfl)) (pa_cons (pe_ix (ix_seqK (K := K) rfl) (pv 2) pe_int (fun _ _ => rfl)) pa_nil))) pe_non)))
      pss_nil)
    (pss_cons (ps_if (pt_cmpR (op_eqDK (K := K) rfl (hr_u hr)) (pv 0) pe_str (nomark _))
      (pss_one (ps_ret (pe_ifExp (pt_cmpR (op_eqDK (K := K) rfl (hr_u hr)) (pe_ix (ix_seqK (K := K) rfl) (pv 1) pe_int (fun _ _ => rfl)) (pe_ix (ix_seqK (K := K) rfl) (pv 2) pe_int (fun _ _ => rfl)) (nomark _)) (pe_tup (pa_cons (pe_ix (ix_seqK (K := K) rfl) (pv 1) pe_int (fun _ _ => rfl)) (pa_cons (pe_op (op_plusK (K := K) rfl) (pe_ix (ix_seqK (K := K) rfl) (pv 1) pe_int (fun _ _ => rfl)) (pe_ix (ix_seqK (K := K) rfl) (pv 2) pe_int (fun _ _ => rfl))) pa_nil))) pe_non)))
      pss_nil)
    (pss_one (ps_ret (pe_ifExp (pt_cmpR (op_eqDK (K := K) rfl (hr_u hr)) (pe_ix (ix_seqK (K := K) rfl) (pv 1) pe_int (fun _ _ => rfl)) (pe_ix (ix_seqK (K := K) rfl) (pv 2) pe_int (fun _ _ => rfl)) (nomark _)) (pe_tup (pa_cons (pe_op (op_plusK (K := K) rfl) (pe_ix (ix_seqK (K := K) rfl) (pv 1) pe_int (fun _ _ => rfl)) (pe_ix (ix_seqK (K := K) rfl) (pv 2) pe_int (fun _ _ => rfl))) (pa_cons (pe_ix (ix_seqK (K := K) rfl) (pv 1) pe_int (fun _ _ => rfl)) pa_nil))) pe_non)))))), ?_⟩
  try dsimp only [cxOf, Cx.blk, Cx.nox, Cx.wish]
  (refine body_of h fun W ds P eK f => ?_); subst eK
  obtain ⟨k, ⟨a, b⟩, ⟨c, d⟩, rfl, hk, hP⟩ := f
  simp only [shD] at *
  unfold twoD at hP
  walk_at "pd"
  refine ⟨fun z => ?_, fun z => ?_⟩
  · rw [if_pos (of_decide_eq_true z)] at hP
    walk_at "pd"
    refine ⟨fun z => ?_, fun z => ?_⟩
    · rw [if_pos (of_decide_eq_true z)] at hP
      walk_at "pd"
      exact hP
    · rw [if_neg (of_decide_eq_false z)] at hP
      walk_at "pd"
      exact hP
  rw [if_neg (of_decide_eq_false z)] at hP
  walk_at "pd"
  refine ⟨fun z => ?_, fun z => ?_⟩
  · rw [if_pos (of_decide_eq_true z)] at hP
    walk_at "pd"
    refine ⟨fun z => ?_, fun z => ?_⟩
    · rw [if_pos (of_decide_eq_true z)] at hP
      walk_at "pd"
      exact hP
    · rw [if_neg (of_decide_eq_false z)] at hP
      walk_at "pd"
      exact hP
  rw [if_neg (of_decide_eq_false z)] at hP
  walk_at "pd"
  refine ⟨fun z => ?_, fun z => ?_⟩
  · rw [if_pos (of_decide_eq_true z)] at hP
    walk_at "pd"
    refine ⟨fun z => ?_, fun z => ?_⟩
    · rw [if_pos (of_decide_eq_true z)] at hP
      walk_at "pd"
      exact hP
    · rw [if_neg (of_decide_eq_false z)] at hP
      walk_at "pd"
      exact hP
  rw [if_neg (of_decide_eq_false z)] at hP
  walk_at "pd"
  refine ⟨fun z => ?_, fun z => ?_⟩
  · rw [if_pos (of_decide_eq_true z)] at hP
    walk_at "pd"
    exact hP
  · rw [if_neg (of_decide_eq_false z)] at hP
    walk_at "pd"
    exact hP
def F__piece_shape : FD := fun ds P => ∃ (k : Str) (g i j r c a b : Int), ds = [stD k [g, i, j, r, c], .int a, .int b] ∧ P (optSh (pieceD i j r c (a, b)))
theorem len__piece_shape : ∀ ds P, F__piece_shape ds P → ds.length = 3 := by (intro ds P h; first | exact h | (obtain ⟨_, rfl, _⟩ := h; rfl) | (obtain ⟨_, _, rfl, _⟩ := h; rfl) | (obtain ⟨_, _, _, rfl, _⟩ := h; rfl) | (obtain ⟨_, _, _, _, rfl, _⟩ := h; rfl) | (obtain ⟨_, _, _, _, _, rfl, _⟩ := h; rfl) | (obtain ⟨_, _, _, _, _, _, rfl, _⟩ := h; rfl) | (obtain ⟨_, _, _, _, _, _, _, rfl, _⟩ := h; rfl) | (obtain ⟨_, _, _, _, _, _, _, _, rfl, _⟩ := h; rfl) | (obtain ⟨_, _, _, _, _, _, _, _, _, rfl, _⟩ := h; rfl) | (obtain ⟨_, _, _, _, _, _, _, _, _, _, rfl, _⟩ := h; rfl) | (obtain ⟨_, _, _, _, _, _, _, _, _, _, _, rfl, _⟩ := h; rfl) | (obtain ⟨_, _, _, _, _, _, _, _, _, _, _, _, rfl, _⟩ := h; rfl) | (obtain ⟨_, _, _, _, _, _, _, _, _, _, _, _, _, rfl, _⟩ := h; rfl) | (obtain ⟨_, _, _, _, _, _, _, _, _, _, _, _, _, rfl, _⟩ := h; rfl) | (obtain ⟨_, _, _, _, _, _, _, _, _, _, _, _, _, _, rfl, _⟩ := h; rfl) | (obtain ⟨_, _, _, _, _, _, _, _, _, _, _, _, _, _, _, rfl, _⟩ := h; rfl) | (obtain ⟨_, _, _, _, _, _, _, _, _, _, _, _, _, _, _, _, rfl, _⟩ := h; rfl) | (obtain ⟨_, _, _, _, _, _, _, _, _, _, _, _, _, _, _, _, _, rfl, _⟩ := h; rfl) | (obtain ⟨_, _, _, _, _, _, _, _, _, _, _, _, _, _, _, _, _, _, rfl, _⟩ := h; rfl) | (obtain ⟨_, _, _, _, _, _, _, _, _, _, _, _, _, _, _, _, _, _, _, rfl, _⟩ := h; rfl) | (obtain ⟨_, _, _, _, _, _, _, _, _, _, _, _, _, _, _, _, _, _, _, _, rfl, _⟩ := h; rfl) | (obtain ⟨_, _, _, _, _, _, _, _, _, _, _, _, _, _, _, _, _, _, _, _, _, rfl, _⟩ := h; rfl) | (obtain ⟨rfl, _⟩ := h; rfl))
theorem ok__piece_shape (T : Txt K mg) : FnOk Pg T.w0 K mg base CX0 1 T.D__piece_shape.f T.D__piece_shape.d ["step", "rows", "columns"] ((spD K F__piece_shape)) := by
  refine T.D__piece_shape.F.ok (k := 0) sc__piece_shape (spD_len (len__piece_shape)) (fun cdv A outer s H vs Q E hr h => ?_)
  refine ⟨_, (pss_cons (ps_asg (pe_slice (sl_tupAK (K := K) rfl) (pv 0) (po_some pe_int) po_none) (by exact (pg_tupK (K := K) (n := 4) rfl rfl (pgs_cons (pg_name (i := 3) sc__piece_shape.nd rfl (by first | exact Or.inl rfl | exact Or.inr rfl)) (pgs_cons (pg_name (i := 4) sc__piece_shape.nd rfl (by first | exact Or.inl rfl | exact Or.inr rfl)) (pgs_cons (pg_name (i := 5) sc__piece_shape.nd rfl (by first | exact Or.inl rfl | exact Or.inr rfl)) (pgs_cons (pg_name (i := 6) sc__piece_shape.nd rfl (by first | exact Or.inl rfl | exact Or.inr rfl)) pgs_nil)))))))
    (pss_cons (ps_if (PW.pt (pw_or (pt_cmpR op_lt (pe_callB (call_min2 rfl) (by rfl) T.n_min (by decide +kernel) (pa_cons (pv 3) (pa_cons (pv 4) pa_nil))) pe_int (nomark _)) (pw_or1 (pt_cmpR op_lt (pe_callB (call_min2 rfl) (by rfl) T.n_min (by decide +kernel) (pa_cons (pv 5) (pa_cons (pv 6) pa_nil))) pe_int (nomark _)))))
      (pss_one (ps_ret pe_non))
      pss_nil)
    (pss_cons (ps_if (PW.pt (pw_or (pt_cmpR op_gt (pe_op (op_plusK (K := K) rfl) (pv 3) (pv 5)) (pv 1) (nomark _)) (pw_or1 (pt_cmpR op_gt (pe_op (op_plusK (K := K) rfl) (pv 4) (pv 6)) (pv 2) (nomark _)))))
      (pss_one (ps_ret pe_non))
      pss_nil)
    (pss_one (ps_ret (pe_tup (pa_cons (pv 5) (pa_cons (pv 6) pa_nil)))))))), ?_⟩
  try dsimp only [cxOf, Cx.blk, Cx.nox, Cx.wish]
  (refine body_of h fun W ds P eK f => ?_); subst eK
  obtain ⟨k, g, i, j, r, c, a, b, rfl, hP⟩ := f
  unfold pieceD at hP
  unfold stD at *
  walk_at "pd"
  refine sd_asgG (js := [3, 4, 5, 6]) ?_
  walk_at "pd"
  refine ⟨_, rfl, ?_⟩
  walk_at "pd"
  refine ⟨_, rfl, ?_⟩
  walk_at "pd"
  rw [List.map_cons, cut2]
  refine gd_tup4 (gd_name (gd_name (gd_name (gd_name ?_))))
  walk_at "pd"
  have no : min i j < 0 ∨ min r c < 1 → P .non := fun h => by
    rw [if_pos h] at hP
    exact hP
  refine ⟨fun z => ?_, fun z => ?_⟩
  · have z1 := of_decide_eq_false z
    walk_at "pd"
    refine ⟨fun z => ?_, fun z => ?_⟩
    · walk_at "pd"
      exact no (.inr (of_decide_eq_true z))
    have z2 := of_decide_eq_false z
    rw [if_neg (fun h => h.elim z1 z2)] at hP
    walk_at "pd"
    refine ⟨fun z => ?_, fun z => ?_⟩
    · have z3 := of_decide_eq_false z
      walk_at "pd"
      refine ⟨fun z => ?_, fun z => ?_⟩
      · rw [if_pos (.inr (of_decide_eq_true z))] at hP
        walk_at "pd"
        exact hP
      · rw [if_neg (fun h => h.elim z3 (of_decide_eq_false z))] at hP
        walk_at "pd"
        exact hP
    · rw [if_pos (.inl (of_decide_eq_true z))] at hP
      walk_at "pd"
      exact hP
  · walk_at "pd"
    exact no (.inl (of_decide_eq_true z))
def F__fitting_shape : FD := fun ds P => ∃ (k : Str) (l : List Int) (one other : Sh) (more : List Sh), ds = [stD k l, .lst ((one :: more).map shD)] ∧ kindLen.lookup k = some ((l.length : Int) + 1) ∧ (kindLen.lookup k = some 3 → ∃ r, more = other :: r) ∧ P (optSh (fitD k l one other))
theorem len__fitting_shape : ∀ ds P, F__fitting_shape ds P → ds.length = 2 := by (intro ds P h; first | exact h | (obtain ⟨_, rfl, _⟩ := h; rfl) | (obtain ⟨_, _, rfl, _⟩ := h; rfl) | (obtain ⟨_, _, _, rfl, _⟩ := h; rfl) | (obtain ⟨_, _, _, _, rfl, _⟩ := h; rfl) | (obtain ⟨_, _, _, _, _, rfl, _⟩ := h; rfl) | (obtain ⟨_, _, _, _, _, _, rfl, _⟩ := h; rfl) | (obtain ⟨_, _, _, _, _, _, _, rfl, _⟩ := h; rfl) | (obtain ⟨_, _, _, _, _, _, _, _, rfl, _⟩ := h; rfl) | (obtain ⟨_, _, _, _, _, _, _, _, _, rfl, _⟩ := h; rfl) | (obtain ⟨_, _, _, _, _, _, _, _, _, _, rfl, _⟩ := h; rfl) | (obtain ⟨_, _, _, _, _, _, _, _, _, _, _, rfl, _⟩ := h; rfl) | (obtain ⟨_, _, _, _, _, _, _, _, _, _, _, _, rfl, _⟩ := h; rfl) | (obtain ⟨_, _, _, _, _, _, _, _, _, _, _, _, _, rfl, _⟩ := h; rfl) | (obtain ⟨_, _, _, _, _, _, _, _, _, _, _, _, _, rfl, _⟩ := h; rfl) | (obtain ⟨_, _, _, _, _, _, _, _, _, _, _, _, _, _, rfl, _⟩ := h; rfl) | (obtain ⟨_, _, _, _, _, _, _, _, _, _, _, _, _, _, _, rfl, _⟩ := h; rfl) | (obtain ⟨_, _, _, _, _, _, _, _, _, _, _, _, _, _, _, _, rfl, _⟩ := h; rfl) | (obtain ⟨_, _, _, _, _, _, _, _, _, _, _, _, _, _, _, _, _, rfl, _⟩ := h; rfl) | (obtain ⟨_, _, _, _, _, _, _, _, _, _, _, _, _, _, _, _, _, _, rfl, _⟩ := h; rfl) | (obtain ⟨_, _, _, _, _, _, _, _, _, _, _, _, _, _, _, _, _, _, _, rfl, _⟩ := h; rfl) | (obtain ⟨_, _, _, _, _, _, _, _, _, _, _, _, _, _, _, _, _, _, _, _, rfl, _⟩ := h; rfl) | (obtain ⟨_, _, _, _, _, _, _, _, _, _, _, _, _, _, _, _, _, _, _, _, _, rfl, _⟩ := h; rfl) | (obtain ⟨rfl, _⟩ := h; rfl))
theorem ok__fitting_shape (T : Txt K mg) : FnOk Pg T.w0 K mg base CX0 2 T.D__fitting_shape.f T.D__fitting_shape.d ["step", "shapes"] ((spD K F__fitting_shape)) := by
  have G__piece_shape := ok__piece_shape (Pg := Pg) (base := base) T
  have G__shape_of_two := ok__shape_of_two (Pg := Pg) (base := base) T
  refine T.D__fitting_shape.F.ok (k := 1) sc__fitting_shape (spD_len (len__fitting_shape)) (fun cdv A outer s H vs Q E hr h => ?_)
  refine ⟨_, (pss_cons (ps_asg (pe_ix (ix_seqK (K := K) rfl) (pv 1) pe_int (fun _ _ => rfl)) (by exact (pg_tupK (K := K) (n := 2) rfl rfl (pgs_cons (pg_name (i := 2) sc__fitting_shape.nd rfl (by first | exact Or.inl rfl | exact Or.inr rfl)) (pgs_cons (pg_name (i := 3) sc__fitting_shape.nd rfl (by first | exact Or.inl rfl | exact Or.inr rfl)) pgs_nil)))))
    (pss_cons (ps_if (pt_cmpR (op_eqDK (K := K) rfl (hr_u hr)) (pe_ix (ix_seqK (K := K) rfl) (pv 0) pe_int (fun _ _ => rfl)) pe_str (nomark _))
      (pss_one (ps_ret (pe_tup (pa_cons (pv 3) (pa_cons (pv 2) pa_nil)))))
      pss_nil)
    (pss_cons (ps_if (pt_cmpR (op_eqDK (K := K) rfl (hr_u hr)) (pe_ix (ix_seqK (K := K) rfl) (pv 0) pe_int (fun _ _ => rfl)) pe_str (nomark _))
      (pss_one (ps_ret (pe_ifExp (pt_cmpR (op_eqDK (K := K) rfl (hr_u hr)) (pv 2) (pv 3) (nomark _)) (pe_ix (ix_seqK (K := K) rfl) (pv 1) pe_int (fun _ _ => rfl)) pe_non)))
      pss_nil)
    (pss_cons (ps_if (pt_cmpR (op_eqDK (K := K) rfl (hr_u hr)) (pe_ix (ix_seqK (K := K) rfl) (pv 0) pe_int (fun _ _ => rfl)) pe_str (nomark _))
      (pss_one (ps_ret (pe_call G__piece_shape (hr.mono (by decide)) (by rfl) T.D__piece_shape.g T.D__piece_shape.F.kp T.D__piece_shape.b .nil pass0 (pa_cons (pv 0) (pa_cons (pv 2) (pa_cons (pv 3) pa_nil))))))
      pss_nil)
    (pss_one (ps_ret (pe_call G__shape_of_two (hr.mono (by decide)) (by rfl) T.D__shape_of_two.g T.D__shape_of_two.F.kp T.D__shape_of_two.b .nil pass0 (pa_cons (pe_ix (ix_seqK (K := K) rfl) (pv 0) pe_int (fun _ _ => rfl)) (pa_cons (pe_ix (ix_seqK (K := K) rfl) (pv 1) pe_int (fun _ _ => rfl)) (pa_cons (pe_ix (ix_seqK (K := K) rfl) (pv 1) pe_int (fun _ _ => rfl)) pa_nil)))))))))), ?_⟩
  try dsimp only [cxOf, Cx.blk, Cx.nox, Cx.wish]
  (refine body_of h fun W ds P eK f => ?_); subst eK
  obtain ⟨k, l, ⟨a, b⟩, ⟨c, d⟩, more, rfl, hk, hm, hP⟩ := f
  have kf := kind_fine hk
  unfold fitD at hP
  unfold stD at *
  rw [List.map_cons]
  simp only [shD] at hP ⊢
  walk_at "pd"
  refine sd_asgG (js := [2, 3]) ?_
  walk_at "pd"
  refine gd_tup2 (gd_name (gd_name ?_))
  walk_at "pd"
  refine ⟨fun z => ?_, fun z => ?_⟩
  · rw [if_pos (of_decide_eq_true z)] at hP
    walk_at "pd"
    exact hP
  have z1 := of_decide_eq_false z
  rw [if_neg z1] at hP
  walk_at "pd"
  refine ⟨fun z => ?_, fun z => ?_⟩
  · rw [if_pos (of_decide_eq_true z)] at hP
    walk_at "pd"
    refine ⟨fun z => ?_, fun z => ?_⟩
    · rw [if_pos (of_decide_eq_true z)] at hP
      walk_at "pd"
      exact hP
    · rw [if_neg (of_decide_eq_false z)] at hP
      walk_at "pd"
      exact hP
  have z2 := of_decide_eq_false z
  rw [if_neg z2] at hP
  walk_at "pd"
  refine ⟨fun z => ?_, fun z => ?_⟩
  · have z3 := of_decide_eq_true z
    rw [if_pos z3] at hP
    subst z3
    have l5 : l.length = 5 := by
      have : kindLen.lookup ("piece" : Str) = some 6 := by decide +kernel
      rw [this] at hk
      have := Option.some.inj hk
      omega
    obtain _ | ⟨g, _ | ⟨i, _ | ⟨j, _ | ⟨r, _ | ⟨e, _ | ⟨_, _⟩⟩⟩⟩⟩⟩ := l <;> try (simp at l5; done)
    walk_at "pd"
    exact ⟨_, g, i, j, r, e, a, b, rfl, hP⟩
  have z3 := of_decide_eq_false z
  rw [if_neg z3] at hP
  have h3 : kindLen.lookup k = some 3 := by
    rcases kind_cases hk with ⟨rfl, _⟩ | ⟨rfl, _⟩ | ⟨rfl, _⟩ | ⟨rfl, _⟩ | ⟨rfl, _⟩ | ⟨rfl, _⟩ | ⟨rfl, _⟩ <;> first | rfl | exact absurd rfl z1 | exact absurd rfl z2 | exact absurd rfl z3
  obtain ⟨r, rfl⟩ := hm h3
  rw [List.map_cons]
  simp only [shD]
  walk_at "pd"
  exact ⟨k, (a, b), (c, d), rfl, kf, hP⟩
def F_is_index (K : PySem.W.Frag) : FD := fun ds P => ∃ (x : D) (n : Int), ds = [x, .int n] ∧ Jd1 K x ∧ P (.bl (x.isInt && decide (0 ≤ x.toI) && decide (x.toI < n)))
theorem len_is_index (K : PySem.W.Frag) : ∀ ds P, (F_is_index K) ds P → ds.length = 2 := by (intro ds P h; first | exact h | (obtain ⟨_, rfl, _⟩ := h; rfl) | (obtain ⟨_, _, rfl, _⟩ := h; rfl) | (obtain ⟨_, _, _, rfl, _⟩ := h; rfl) | (obtain ⟨_, _, _, _, rfl, _⟩ := h; rfl) | (obtain ⟨_, _, _, _, _, rfl, _⟩ := h; rfl) | (obtain ⟨_, _, _, _, _, _, rfl, _⟩ := h; rfl) | (obtain ⟨_, _, _, _, _, _, _, rfl, _⟩ := h; rfl) | (obtain ⟨_, _, _, _, _, _, _, _, rfl, _⟩ := h; rfl) | (obtain ⟨_, _, _, _, _, _, _, _, _, rfl, _⟩ := h; rfl) | (obtain ⟨_, _, _, _, _, _, _, _, _, _, rfl, _⟩ := h; rfl) | (obtain ⟨_, _, _, _, _, _, _, _, _, _, _, rfl, _⟩ := h; rfl) | (obtain ⟨_, _, _, _, _, _, _, _, _, _, _, _, rfl, _⟩ := h; rfl) | (obtain ⟨_, _, _, _, _, _, _, _, _, _, _, _, _, rfl, _⟩ := h; rfl) | (obtain ⟨_, _, _, _, _, _, _, _, _, _, _, _, _, rfl, _⟩ := h; rfl) | (obtain ⟨_, _, _, _, _, _, _, _, _, _, _, _, _, _, rfl, _⟩ := h; rfl) | (obtain ⟨_, _, _, _, _, _, _, _, _, _, _, _, _, _, _, rfl, _⟩ := h; rfl) | (obtain ⟨_, _, _, _, _, _, _, _, _, _, _, _, _, _, _, _, rfl, _⟩ := h; rfl) | (obtain ⟨_, _, _, _, _, _, _, _, _, _, _, _, _, _, _, _, _, rfl, _⟩ := h; rfl) | (obtain ⟨_, _, _, _, _, _, _, _, _, _, _, _, _, _, _, _, _, _, rfl, _⟩ := h; rfl) | (obtain ⟨_, _, _, _, _, _, _, _, _, _, _, _, _, _, _, _, _, _, _, rfl, _⟩ := h; rfl) | (obtain ⟨_, _, _, _, _, _, _, _, _, _, _, _, _, _, _, _, _, _, _, _, rfl, _⟩ := h; rfl) | (obtain ⟨_, _, _, _, _, _, _, _, _, _, _, _, _, _, _, _, _, _, _, _, _, rfl, _⟩ := h; rfl) | (obtain ⟨rfl, _⟩ := h; rfl))
theorem ok_is_index (T : Txt K mg) : FnOk Pg T.w0 K mg base CX0 2 T.D_is_index.f T.D_is_index.d ["thing", "many"] ((spD K (F_is_index K))) := by
  have G_is_whole := ok_is_whole (Pg := Pg) (base := base) T
  refine T.D_is_index.F.ok (k := 1) sc_is_index (spD_len (len_is_index K)) (fun cdv A outer s H vs Q E hr h => ?_)
  refine ⟨_, (pss_one (ps_ret (pe_and (pe_call G_is_whole (hr.mono (by decide)) (by rfl) T.D_is_whole.g T.D_is_whole.F.kp T.D_is_whole.b .nil pass0 (pa_cons (pv 0) pa_nil)) (pe_one (pe_chain op_le op_lt pe_int (pv 0) (pv 1)))))), ?_⟩
  try dsimp only [cxOf, Cx.blk, Cx.nox, Cx.wish]
  (refine body_of h fun W ds P eK f => ?_); subst eK
  obtain ⟨x, n, rfl, hx, hP⟩ := f
  walk_at "pd"
  refine ⟨x, rfl, hx, ?_⟩
  walk_at "pd"
  refine ⟨fun h1 => ?_, fun h1 => ?_⟩
  · obtain ⟨i, rfl⟩ := isInt_of h1
    have hP : P (.bl (true && decide (0 ≤ i) && decide (i < n))) := hP
    rw [Bool.true_and] at hP
    walk_at "pd"
    refine ⟨fun h2 => ?_, fun h2 => ?_⟩
    · rw [h2, Bool.true_and] at hP
      walk_at "pd"
      exact hP
    · rw [h2, Bool.false_and] at hP
      exact hP
  · rw [h1, Bool.false_and, Bool.false_and] at hP
    exact hP
def F_sources : FD := fun ds P => ∃ (k : Str) (l : List Int) (n : Int), ds = [stD k l] ∧ kindLen.lookup k = some n ∧ P (.tup ((srcs k l).map D.int))
theorem len_sources : ∀ ds P, F_sources ds P → ds.length = 1 := by (intro ds P h; first | exact h | (obtain ⟨_, rfl, _⟩ := h; rfl) | (obtain ⟨_, _, rfl, _⟩ := h; rfl) | (obtain ⟨_, _, _, rfl, _⟩ := h; rfl) | (obtain ⟨_, _, _, _, rfl, _⟩ := h; rfl) | (obtain ⟨_, _, _, _, _, rfl, _⟩ := h; rfl) | (obtain ⟨_, _, _, _, _, _, rfl, _⟩ := h; rfl) | (obtain ⟨_, _, _, _, _, _, _, rfl, _⟩ := h; rfl) | (obtain ⟨_, _, _, _, _, _, _, _, rfl, _⟩ := h; rfl) | (obtain ⟨_, _, _, _, _, _, _, _, _, rfl, _⟩ := h; rfl) | (obtain ⟨_, _, _, _, _, _, _, _, _, _, rfl, _⟩ := h; rfl) | (obtain ⟨_, _, _, _, _, _, _, _, _, _, _, rfl, _⟩ := h; rfl) | (obtain ⟨_, _, _, _, _, _, _, _, _, _, _, _, rfl, _⟩ := h; rfl) | (obtain ⟨_, _, _, _, _, _, _, _, _, _, _, _, _, rfl, _⟩ := h; rfl) | (obtain ⟨_, _, _, _, _, _, _, _, _, _, _, _, _, rfl, _⟩ := h; rfl) | (obtain ⟨_, _, _, _, _, _, _, _, _, _, _, _, _, _, rfl, _⟩ := h; rfl) | (obtain ⟨_, _, _, _, _, _, _, _, _, _, _, _, _, _, _, rfl, _⟩ := h; rfl) | (obtain ⟨_, _, _, _, _, _, _, _, _, _, _, _, _, _, _, _, rfl, _⟩ := h; rfl) | (obtain ⟨_, _, _, _, _, _, _, _, _, _, _, _, _, _, _, _, _, rfl, _⟩ := h; rfl) | (obtain ⟨_, _, _, _, _, _, _, _, _, _, _, _, _, _, _, _, _, _, rfl, _⟩ := h; rfl) | (obtain ⟨_, _, _, _, _, _, _, _, _, _, _, _, _, _, _, _, _, _, _, rfl, _⟩ := h; rfl) | (obtain ⟨_, _, _, _, _, _, _, _, _, _, _, _, _, _, _, _, _, _, _, _, rfl, _⟩ := h; rfl) | (obtain ⟨_, _, _, _, _, _, _, _, _, _, _, _, _, _, _, _, _, _, _, _, _, rfl, _⟩ := h; rfl) | (obtain ⟨rfl, _⟩ := h; rfl))
theorem ok_sources (T : Txt K mg) : FnOk Pg T.w0 K mg base CX0 1 T.D_sources.f T.D_sources.d ["step"] ((spD K F_sources)) := by
  refine T.D_sources.F.ok (k := 0) sc_sources (spD_len (len_sources)) (fun cdv A outer s H vs Q E hr h => ?_)
  refine ⟨_, (pss_cons (ps_if (pt_cmpR (op_eqDK (K := K) rfl (hr_u hr)) (pe_ix (ix_kdK (K := K) (w := T.w0) rfl rfl) (pe_glob (v := .ref T.d_LENGTHS) rfl T.m_LENGTHS rfl) (pe_ix (ix_seqK (K := K) rfl) (pv 0) pe_int (fun _ _ => rfl)) (fun _ _ => rfl)) (pe_glob (v := .int 3) rfl T.c_LENGTH_OF_TWO ⟨_, rfl⟩) (nomark _))
      (pss_one (ps_ret (pe_slice (sl_tupAK (K := K) rfl) (pv 0) (po_some pe_int) (po_some pe_int))))
      pss_nil)
    (pss_one (ps_ret (pe_slice (sl_tupAK (K := K) rfl) (pv 0) (po_some pe_int) (po_some pe_int))))), ?_⟩
  try dsimp only [cxOf, Cx.blk, Cx.nox, Cx.wish]
  (refine body_of h fun W ds P eK f => ?_); subst eK
  obtain ⟨k, l, n, rfl, hk, hP⟩ := f
  have kd := T.kd_LENGTHS
  unfold srcs at hP
  unfold stD at *
  walk_at "pd"
  refine rd_kix kd hk ?_
  walk_at "pd"
  refine ⟨fun z => ?_, fun z => ?_⟩
  · have e := of_decide_eq_true z
    rw [hk, if_pos (by rw [e])] at hP
    walk_at "pd"
    refine ⟨_, rfl, ?_⟩
    walk_at "pd"
    refine ⟨_, rfl, ?_⟩
    walk_at "pd"
    refine ⟨_, rfl, ?_⟩
    rw [cut13, ← List.map_take]
    exact hP
  · have e := of_decide_eq_false z
    rw [hk, if_neg (by simpa using e)] at hP
    walk_at "pd"
    refine ⟨_, rfl, ?_⟩
    walk_at "pd"
    refine ⟨_, rfl, ?_⟩
    walk_at "pd"
    refine ⟨_, rfl, ?_⟩
    rw [cut12, ← List.map_take]
    exact hP
def isStep (n : Int) (x : D) : Bool := match stepOf x with
  | none => false
  | some (k, l) => (srcs k l).all (okSrc n)
theorem step_str {x : D} {xs : List D} (h : x.isStr = false) : stepOf (.tup (x :: xs)) = none := by
  cases x <;> first | rfl | cases h
def F_is_step (K : PySem.W.Frag) : FD := fun ds P => ∃ (x : D) (n : Int), ds = [x, .int n] ∧ Jd K x ∧ x.len ≤ 1000 ∧ P (.bl (isStep n x))
theorem len_is_step (K : PySem.W.Frag) : ∀ ds P, (F_is_step K) ds P → ds.length = 2 := by (intro ds P h; first | exact h | (obtain ⟨_, rfl, _⟩ := h; rfl) | (obtain ⟨_, _, rfl, _⟩ := h; rfl) | (obtain ⟨_, _, _, rfl, _⟩ := h; rfl) | (obtain ⟨_, _, _, _, rfl, _⟩ := h; rfl) | (obtain ⟨_, _, _, _, _, rfl, _⟩ := h; rfl) | (obtain ⟨_, _, _, _, _, _, rfl, _⟩ := h; rfl) | (obtain ⟨_, _, _, _, _, _, _, rfl, _⟩ := h; rfl) | (obtain ⟨_, _, _, _, _, _, _, _, rfl, _⟩ := h; rfl) | (obtain ⟨_, _, _, _, _, _, _, _, _, rfl, _⟩ := h; rfl) | (obtain ⟨_, _, _, _, _, _, _, _, _, _, rfl, _⟩ := h; rfl) | (obtain ⟨_, _, _, _, _, _, _, _, _, _, _, rfl, _⟩ := h; rfl) | (obtain ⟨_, _, _, _, _, _, _, _, _, _, _, _, rfl, _⟩ := h; rfl) | (obtain ⟨_, _, _, _, _, _, _, _, _, _, _, _, _, rfl, _⟩ := h; rfl) | (obtain ⟨_, _, _, _, _, _, _, _, _, _, _, _, _, rfl, _⟩ := h; rfl) | (obtain ⟨_, _, _, _, _, _, _, _, _, _, _, _, _, _, rfl, _⟩ := h; rfl) | (obtain ⟨_, _, _, _, _, _, _, _, _, _, _, _, _, _, _, rfl, _⟩ := h; rfl) | (obtain ⟨_, _, _, _, _, _, _, _, _, _, _, _, _, _, _, _, rfl, _⟩ := h; rfl) | (obtain ⟨_, _, _, _, _, _, _, _, _, _, _, _, _, _, _, _, _, rfl, _⟩ := h; rfl) | (obtain ⟨_, _, _, _, _, _, _, _, _, _, _, _, _, _, _, _, _, _, rfl, _⟩ := h; rfl) | (obtain ⟨_, _, _, _, _, _, _, _, _, _, _, _, _, _, _, _, _, _, _, rfl, _⟩ := h; rfl) | (obtain ⟨_, _, _, _, _, _, _, _, _, _, _, _, _, _, _, _, _, _, _, _, rfl, _⟩ := h; rfl) | (obtain ⟨_, _, _, _, _, _, _, _, _, _, _, _, _, _, _, _, _, _, _, _, _, rfl, _⟩ := h; rfl) | (obtain ⟨rfl, _⟩ := h; rfl))
theorem ok_is_step (T : Txt K mg) : FnOk Pg T.w0 K mg base CX0 3 T.D_is_step.f T.D_is_step.d ["thing", "many"] ((spD K (F_is_step K))) := by
  have G_is_index := ok_is_index (Pg := Pg) (base := base) T
  have G_is_whole := ok_is_whole (Pg := Pg) (base := base) T
  have G_sources := ok_sources (Pg := Pg) (base := base) T
  refine T.D_is_step.F.ok (k := 2) sc_is_step (spD_len (len_is_step K)) (fun cdv A outer s H vs Q E hr h => ?_)
  refine ⟨_, (pss_cons (ps_if (PW.pt (pw_or (pt_not (pt_val (pe_callB (call_isiK' (K := K) rfl) (by rfl) T.n_isinstance (by decide +kernel) (pa_cons (pv 0) (pa_cons (pe_bltn (v := .ty "tuple") (u := .type "tuple") (by rfl) T.n_tuple (by decide +kernel) rfl) pa_nil))))) (pw_or (pt_cmpR (op_eqDK (K := K) rfl (hr_u hr)) (pe_callB (call_lenK (K := K) rfl) (by rfl) T.n_len (by decide +kernel) (pa_cons (pv 0) pa_nil)) pe_int (nomark _)) (pw_or1 (pt_not (pt_val (pe_callB (call_isiK' (K := K) rfl) (by rfl) T.n_isinstance (by decide +kernel) (pa_cons (pe_ix (ix_seqK (K := K) rfl) (pv 0) pe_int (fun _ _ => rfl)) (pa_cons (pe_bltn (v := .ty "str") (u := .type "str") (by rfl) T.n_str (by decide +kernel) rfl) pa_nil)))))))))
      (pss_one (ps_ret pe_bl))
      pss_nil)
    (pss_cons (ps_if (PW.pt (pw_or (pt_cmpR (op_neDK (K := K) rfl (hr_u hr)) (pe_callB (call_lenK (K := K) rfl) (by rfl) T.n_len (by decide +kernel) (pa_cons (pv 0) pa_nil)) (pe_kgetK (K := K) (w := T.w0) rfl rfl (pe_glob (v := .ref T.d_LENGTHS) rfl T.m_LENGTHS rfl) (pe_ix (ix_seqK (K := K) rfl) (pv 0) pe_int (fun _ _ => rfl)) ⟨rfl, rfl, rfl, rfl⟩) (nomark _)) (pw_or1 (pt_not (pt_val (pe_callB (cr_allK (K := K) rfl rfl) (by rfl) T.n_all (by decide +kernel) (pa_cons (pe_lc (own := [("number", 2)]) rfl sc_is_step.nd (pi_seqK (K := K) rfl (pe_slice (sl_tupAK (K := K) rfl) (pv 0) (po_some pe_int) po_none)) (blkOk_by (N := ["thing", "many", "number"]) (sc := defScope s_is_step) (by decide +kernel)) (fun _ _ _ _ _ => (pg_name (i := 2) sc_is_step.nd rfl (by first | exact Or.inl rfl | exact Or.inr rfl))) (fun _ _ _ _ _ => pts_nil) (fun _ _ _ _ _ => (pe_call G_is_whole (hr.mono (by decide)) (by rfl) T.D_is_whole.g T.D_is_whole.F.kp T.D_is_whole.b .nil pass0 (pa_cons (pv 2) pa_nil)))) pa_nil)))))))
      (pss_one (ps_ret pe_bl))
      pss_nil)
    (pss_one (ps_ret (pe_callB (cr_allK (K := K) rfl rfl) (by rfl) T.n_all (by decide +kernel) (pa_cons (pe_lc (own := [("number", 2)]) rfl sc_is_step.nd (pi_seqK (K := K) rfl (pe_call G_sources (hr.mono (by decide)) (by rfl) T.D_sources.g T.D_sources.F.kp T.D_sources.b .nil pass0 (pa_cons (pv 0) pa_nil))) (blkOk_by (N := ["thing", "many", "number"]) (sc := defScope s_is_step) (by decide +kernel)) (fun _ _ _ _ _ => (pg_name (i := 2) sc_is_step.nd rfl (by first | exact Or.inl rfl | exact Or.inr rfl))) (fun _ _ _ _ _ => pts_nil) (fun _ _ _ _ _ => (pe_call G_is_index (hr.mono (by decide)) (by rfl) T.D_is_index.g T.D_is_index.F.kp T.D_is_index.b .nil pass0 (pa_cons (pv 2) (pa_cons (pv 1) pa_nil))))) pa_nil)))))), ?_⟩
  try dsimp only [cxOf, Cx.blk, Cx.nox, Cx.wish]
  (refine body_of h fun W ds P eK f => ?_); subst eK
  obtain ⟨x, n, rfl, jx, lx, hP⟩ := f
  have tx := jd_ty jx
  have kd := T.kd_LENGTHS
  have no : stepOf x = none → P (.bl false) := fun e => by
    unfold isStep at hP
    rw [e] at hP
    exact hP
  walk_at "pd"
  refine ⟨fun z => ?_, fun z => ?_⟩
  · obtain ⟨xs, rfl⟩ := tup_of (by simpa using z)
    have lx : (xs.length : Int) ≤ 1000 := lx
    walk_at "pd"
    refine ⟨fun z => ?_, fun z => ?_⟩
    · have z := of_decide_eq_false z
      obtain _ | ⟨y, ys⟩ := xs
      · exact absurd rfl z
      simp only [Jd, JdA] at jx
      have ty := jd_ty jx.1
      walk_at "pd"
      cases hs : y.isStr with
      | false =>
        walk_at "pd"
        exact no (step_str hs)
      | true =>
        obtain ⟨k, rfl⟩ : ∃ k, y = .str k := by cases y <;> first | exact ⟨_, rfl⟩ | cases hs
        walk_at "pd"
        have tl : (D.str k :: ys).length = ys.length + 1 := rfl
        have form : ∀ n, kindLen.lookup k = some n → stepOf (.tup (.str k :: ys)) = (match intsOf ys with
            | none => none
            | some l => if (l.length : Int) + 1 = n then some (k, l) else none) := fun n e => by
          unfold stepOf
          simp only [e]
          cases intsOf ys <;> rfl
        refine ev_kget kd ?_
        walk_at "pd"
        refine ⟨rfl, ?_⟩
        walk_at "pd"
        refine ⟨k, rfl, ?_⟩
        change RD W _ _ (optI (kindLen.lookup k)) _
        cases e : kindLen.lookup k with
        | none =>
          refine rd_neIN ?_
          walk_at "pd"
          refine no ?_
          unfold stepOf
          simp only [e]
        | some m =>
          have form := form m e
          unfold optI
          walk_at "pd"
          refine ⟨fun z => ?_, fun z => ?_⟩
          · have z1 : ((ys.length + 1 : Nat) : Int) = m := by simpa using z
            walk_at "pd"
            refine ev_lcL (it_seqT ?_)
            walk_at "pd"
            refine ⟨_, rfl, ?_⟩
            walk_at "pd"
            refine ⟨_, rfl, ?_⟩
            walk_at "pd"
            rw [cut1]
            have z2 : ((D.str k :: ys).length : Int) ≤ 1000 := lx
            refine ⟨_, rfl, by omega, ys.map fun y => .bl y.isInt, by rw [List.length_map], fun i d y hd hy => ?_, ?_⟩
            · rw [List.getElem?_map, hd] at hy
              cases hy
              refine ⟨[2], by simp, gd_name ?_⟩
              walk_at "pd"
              exact ⟨d, rfl, jd_ty (jd_mem jx.2 (List.mem_of_getElem? hd)), rfl⟩
            · walk_at "pd"
              rw [show (ys.map fun y => D.bl y.isInt) = (ys.map fun y => y.isInt).map D.bl from by rw [List.map_map]; rfl]
              refine rc_all ?_
              rw [List.all_map, show (ys.all (id ∘ fun y => y.isInt)) = ys.all (·.isInt) from rfl, intsOf_all]
              cases ei : intsOf ys with
              | none =>
                walk_at "pd"
                refine no ?_
                rw [form, ei]
              | some l =>
                have ey := intsOf_some ei
                subst ey
                rw [List.length_map] at z1
                have so : stepOf (.tup (.str k :: l.map D.int)) = some (k, l) := by
                  rw [form, ei]
                  exact if_pos (by omega)
                have hP : P (.bl ((srcs k l).all (okSrc n))) := by
                  unfold isStep at hP
                  rw [so] at hP
                  exact hP
                walk_at "pd"
                refine ev_lcL (it_seqT ?_)
                walk_at "pd"
                refine ⟨k, l, m, rfl, e, ?_⟩
                have hs3 : (srcs k l).length ≤ 2 := by
                  unfold srcs
                  split <;> (rw [List.length_take]; omega)
                refine ⟨_, rfl, by rw [List.length_map]; omega, (srcs k l).map fun i => .bl (okSrc n i), by rw [List.length_map, List.length_map], fun i d y hd hy => ?_, ?_⟩
                · rw [List.getElem?_map] at hd hy
                  cases eq : (srcs k l)[i]? with
                  | none => rw [eq] at hd; cases hd
                  | some v =>
                    rw [eq] at hd hy
                    cases hd
                    cases hy
                    refine ⟨[2], by simp, gd_name ?_⟩
                    walk_at "pd"
                    exact ⟨_, _, rfl, rfl, by simp only [D.isInt, D.toI, Bool.true_and]; rfl⟩
                · walk_at "pd"
                  rw [show ((srcs k l).map fun i => D.bl (okSrc n i)) = ((srcs k l).map (okSrc n)).map D.bl from by rw [List.map_map]; rfl]
                  refine rc_all ?_
                  rw [List.all_map]
                  exact hP
          · have z1 : ¬ ((ys.length + 1 : Nat) : Int) = m := by simpa using z
            walk_at "pd"
            refine no ?_
            rw [form]
            cases ei : intsOf ys with
            | none => rfl
            | some l =>
              have ey := intsOf_some ei
              subst ey
              rw [List.length_map] at z1
              exact if_neg (by omega)
    · have z := of_decide_eq_true z
      obtain _ | ⟨y, ys⟩ := xs
      · walk_at "pd"
        exact no rfl
      · have z : ((ys.length + 1 : Nat) : Int) = 0 := z
        omega
  · walk_at "pd"
    have e : x.isTup = false := by simpa using z
    exact no (by cases x <;> first | rfl | cases e)
theorem made_none {shs : List Sh} {x : D} (h : isStep shs.length x = false) : madeD shs x = none := by
  unfold isStep at h
  unfold madeD
  cases e : stepOf x with
  | none => rfl
  | some p =>
    obtain ⟨k, l⟩ := p
    rw [e] at h
    simp only at h ⊢
    rw [h]
    rfl
def F_made_shape (K : PySem.W.Frag) : FD := fun ds P => ∃ (shs : List Sh) (x : D), ds = [.lst (shs.map shD), x] ∧ shs.length ≤ 1000 ∧ Jd K x ∧ x.len ≤ 1000 ∧ P (optSh (madeD shs x))
theorem len_made_shape (K : PySem.W.Frag) : ∀ ds P, (F_made_shape K) ds P → ds.length = 2 := by (intro ds P h; first | exact h | (obtain ⟨_, rfl, _⟩ := h; rfl) | (obtain ⟨_, _, rfl, _⟩ := h; rfl) | (obtain ⟨_, _, _, rfl, _⟩ := h; rfl) | (obtain ⟨_, _, _, _, rfl, _⟩ := h; rfl) | (obtain ⟨_, _, _, _, _, rfl, _⟩ := h; rfl) | (obtain ⟨_, _, _, _, _, _, rfl, _⟩ := h; rfl) | (obtain ⟨_, _, _, _, _, _, _, rfl, _⟩ := h; rfl) | (obtain ⟨_, _, _, _, _, _, _, _, rfl, _⟩ := h; rfl) | (obtain ⟨_, _, _, _, _, _, _, _, _, rfl, _⟩ := h; rfl) | (obtain ⟨_, _, _, _, _, _, _, _, _, _, rfl, _⟩ := h; rfl) | (obtain ⟨_, _, _, _, _, _, _, _, _, _, _, rfl, _⟩ := h; rfl) | (obtain ⟨_, _, _, _, _, _, _, _, _, _, _, _, rfl, _⟩ := h; rfl) | (obtain ⟨_, _, _, _, _, _, _, _, _, _, _, _, _, rfl, _⟩ := h; rfl) | (obtain ⟨_, _, _, _, _, _, _, _, _, _, _, _, _, rfl, _⟩ := h; rfl) | (obtain ⟨_, _, _, _, _, _, _, _, _, _, _, _, _, _, rfl, _⟩ := h; rfl) | (obtain ⟨_, _, _, _, _, _, _, _, _, _, _, _, _, _, _, rfl, _⟩ := h; rfl) | (obtain ⟨_, _, _, _, _, _, _, _, _, _, _, _, _, _, _, _, rfl, _⟩ := h; rfl) | (obtain ⟨_, _, _, _, _, _, _, _, _, _, _, _, _, _, _, _, _, rfl, _⟩ := h; rfl) | (obtain ⟨_, _, _, _, _, _, _, _, _, _, _, _, _, _, _, _, _, _, rfl, _⟩ := h; rfl) | (obtain ⟨_, _, _, _, _, _, _, _, _, _, _, _, _, _, _, _, _, _, _, rfl, _⟩ := h; rfl) | (obtain ⟨_, _, _, _, _, _, _, _, _, _, _, _, _, _, _, _, _, _, _, _, rfl, _⟩ := h; rfl) | (obtain ⟨_, _, _, _, _, _, _, _, _, _, _, _, _, _, _, _, _, _, _, _, _, rfl, _⟩ := h; rfl) | (obtain ⟨rfl, _⟩ := h; rfl))
theorem ok_made_shape (T : Txt K mg) : FnOk Pg T.w0 K mg base CX0 4 T.D_made_shape.f T.D_made_shape.d ["shapes", "thing"] ((spD K (F_made_shape K))) := by
  have G__fitting_shape := ok__fitting_shape (Pg := Pg) (base := base) T
  have G_is_step := ok_is_step (Pg := Pg) (base := base) T
  have G_sources := ok_sources (Pg := Pg) (base := base) T
  refine T.D_made_shape.F.ok (k := 3) sc_made_shape (spD_len (len_made_shape K)) (fun cdv A outer s H vs Q E hr h => ?_)
  refine ⟨_, (pss_cons (ps_if (pt_not (pt_val (pe_call G_is_step (hr.mono (by decide)) (by rfl) T.D_is_step.g T.D_is_step.F.kp T.D_is_step.b .nil pass0 (pa_cons (pv 1) (pa_cons (pe_callB (call_lenK (K := K) rfl) (by rfl) T.n_len (by decide +kernel) (pa_cons (pv 0) pa_nil)) pa_nil)))))
      (pss_one (ps_ret pe_non))
      pss_nil)
    (pss_cons (ps_set (i := 2) sc_made_shape.nd rfl (by first | exact Or.inl rfl | exact Or.inr rfl) (pe_call G__fitting_shape (hr.mono (by decide)) (by rfl) T.D__fitting_shape.g T.D__fitting_shape.F.kp T.D__fitting_shape.b .nil pass0 (pa_cons (pv 1) (pa_cons (pe_lc (own := [("number", 3)]) rfl sc_made_shape.nd (pi_seqK (K := K) rfl (pe_call G_sources (hr.mono (by decide)) (by rfl) T.D_sources.g T.D_sources.F.kp T.D_sources.b .nil pass0 (pa_cons (pv 1) pa_nil))) (blkOk_by (N := ["shapes", "thing", "shape", "number"]) (sc := defScope s_made_shape) (by decide +kernel)) (fun _ _ _ _ _ => (pg_name (i := 3) sc_made_shape.nd rfl (by first | exact Or.inl rfl | exact Or.inr rfl))) (fun _ _ _ _ _ => pts_nil) (fun _ _ _ _ _ => (pe_ix (ix_seqK (K := K) rfl) (pv 0) (pv 3) (fun _ _ => rfl)))) pa_nil))))
    (pss_cons (ps_if (PW.pt (pw_or (pt_cmpR op_isN (pv 2) pe_non (nomark _)) (pw_or1 (pt_cmpR op_gt (pe_callB (call_maxTK (K := K) rfl rfl (hr_u hr)) (by rfl) T.n_max (by decide +kernel) (pa_cons (pv 2) pa_nil)) (pe_glob (v := .int 12) rfl T.c_MOST_MADE ⟨_, rfl⟩) (nomark _)))))
      (pss_one (ps_ret pe_non))
      pss_nil)
    (pss_one (ps_ret (pv 2)))))), ?_⟩
  try dsimp only [cxOf, Cx.blk, Cx.nox, Cx.wish]
  (refine body_of h fun W ds P eK f => ?_); subst eK
  obtain ⟨shs, x, rfl, ls, jx, lx, hP⟩ := f
  walk_at "pd"
  rw [List.length_map]
  refine ⟨x, _, rfl, jx, lx, ?_⟩
  walk_at "pd"
  cases hs : isStep shs.length x with
  | false =>
    rw [made_none hs] at hP
    walk_at "pd"
    exact hP
  | true =>
    walk_at "pd"
    have so : ∃ k l, stepOf x = some (k, l) ∧ (srcs k l).all (okSrc shs.length) = true := by
      unfold isStep at hs
      cases e : stepOf x with
      | none => rw [e] at hs; cases hs
      | some p => rw [e] at hs; exact ⟨p.1, p.2, rfl, hs⟩
    obtain ⟨k, l, so, hall⟩ := so
    obtain ⟨rfl, hk⟩ := stepOf_some so
    have hm : madeD shs (stD k l) = small12 (fitD k l (shAt shs (l.getD 0 0)) (shAt shs (l.getD 1 0))) := by
      unfold madeD
      rw [so]
      exact if_pos hall
    rw [hm] at hP
    refine ev_mid (fun d => d = .lst ((srcs k l).map fun i => shD (shAt shs i))) ?_ ?_
    · refine ev_lcL (it_seqT ?_)
      walk_at "pd"
      refine ⟨k, l, _, rfl, hk, ?_⟩
      have hs3 : (srcs k l).length ≤ 2 := by
        unfold srcs
        split <;> (rw [List.length_take]; omega)
      refine ⟨_, rfl, by rw [List.length_map]; omega, (srcs k l).map fun i => shD (shAt shs i), by rw [List.length_map, List.length_map], fun i d y hd hy => ?_, rfl⟩
      rw [List.getElem?_map] at hd hy
      cases eq : (srcs k l)[i]? with
      | none => rw [eq] at hd; cases hd
      | some v =>
        rw [eq] at hd hy
        cases hd
        cases hy
        have ok := List.all_eq_true.mp hall v (List.mem_of_getElem? eq)
        unfold okSrc at ok
        simp only [Bool.and_eq_true, decide_eq_true_eq] at ok
        refine ⟨[3], by simp, gd_name ?_⟩
        walk_at "pd"
        refine rd_ixL (j := v.toNat) (by omega) ?_ rfl
        have lt : v.toNat < shs.length := by omega
        rw [List.getElem?_map, List.getElem?_eq_getElem lt]
        unfold shAt
        simp [lt]
    · rintro d rfl
      have l1 : 1 ≤ l.length := by
        rcases kind_cases hk with ⟨_, h⟩ | ⟨_, h⟩ | ⟨_, h⟩ | ⟨_, h⟩ | ⟨_, h⟩ | ⟨_, h⟩ | ⟨_, h⟩ <;> omega
      obtain ⟨g, r, rfl⟩ : ∃ g r, l = g :: r := by
        cases l with
        | nil => simp at l1
        | cons g r => exact ⟨g, r, rfl⟩
      have hsr : ∃ m, (srcs k (g :: r)).map (fun i => shD (shAt shs i)) = (shAt shs g :: m).map shD ∧ (kindLen.lookup k = some 3 → ∃ q, m = shAt shs (r.getD 0 0) :: q) := by
        unfold srcs
        by_cases h3 : kindLen.lookup k = some 3
        · rw [if_pos h3]
          rw [h3] at hk
          have e3 := Option.some.inj hk
          obtain ⟨g2, rfl⟩ : ∃ g2, r = [g2] := by
            simp only [List.length_cons] at e3
            obtain _ | ⟨g2, _ | ⟨_, _⟩⟩ := r
            · simp at e3
            · exact ⟨g2, rfl⟩
            · simp only [List.length_cons] at e3
              omega
          exact ⟨[shAt shs g2], rfl, fun _ => ⟨[], rfl⟩⟩
        · rw [if_neg h3]
          exact ⟨[], rfl, fun h => absurd h h3⟩
      obtain ⟨m, em, hm3⟩ := hsr
      rw [em]
      walk_at "pd"
      refine ⟨k, g :: r, shAt shs g, shAt shs (r.getD 0 0), m, rfl, hk, hm3, ?_⟩
      have hP : P (optSh (small12 (fitD k (g :: r) (shAt shs g) (shAt shs (r.getD 0 0))))) := hP
      cases ef : fitD k (g :: r) (shAt shs g) (shAt shs (r.getD 0 0)) with
      | none =>
        rw [ef] at hP
        unfold optSh
        walk_at "pd"
        exact hP
      | some p =>
        rw [ef] at hP
        obtain ⟨a, b⟩ := p
        unfold optSh shD
        walk_at "pd"
        refine rc_maxT (n := a) (ns := [b]) ?_
        walk_at "pd"
        have hP : P (optSh (if 12 < max a b then none else some (a, b))) := hP
        refine ⟨fun z => ?_, fun z => ?_⟩
        · have z : 12 < max a b := of_decide_eq_true z
          rw [if_pos z] at hP
          walk_at "pd"
          exact hP
        · have z : ¬ 12 < max a b := of_decide_eq_false z
          rw [if_neg z] at hP
          walk_at "pd"
          exact hP
theorem ok_BadScript___init__ (T : Txt K mg) : FnOk Pg T.w0 K mg base CX0 1 T.D_BadScript___init__.f T.D_BadScript___init__.d ["self", "part"] (spI1 K "part") := by
  refine T.D_BadScript___init__.F.ok (k := 0) sc_BadScript___init__ (fun vs H Q E h => by obtain ⟨_, _, _, rfl, _⟩ := h; rfl) (fun cdv A outer s H vs Q E hr h => ?_)
  refine ⟨_, (pss_one (ps_ost (pv 0) (pv 1))), ?_⟩
  try dsimp only [cxOf, Cx.blk, Cx.nox, Cx.wish]
  obtain ⟨a, C, y, rfl, hC, hf, e, q⟩ := h
  refine ⟨y, rfl, .ref a, rfl, a, C, rfl, hC, hf, .inl ⟨e, fun dx h1 h2 => ?_⟩⟩
  exact q dx h1 h2
def F__shapes_made {K : PySem.W.Frag} {mg : Str → Option Value} (T : Txt K mg) : FX := fun ds P X => ∃ (shs : List Sh) (xs : List D), ds = [.lst (shs.map shD), .tup xs] ∧ shs.length ≤ 10 ∧ xs.length ≤ 16 ∧ JdA K xs ∧ (∀ x ∈ xs, x.len ≤ 1000) ∧ (∀ r, runS shs xs 0 = .inl r → P (.tup (r.map shD))) ∧ ∀ k, runS shs xs 0 = .inr k → X (T.x_BadScript.C, [("part", .int k)])
theorem len__shapes_made {K : PySem.W.Frag} {mg : Str → Option Value} (T : Txt K mg) : ∀ ds P X, (F__shapes_made T) ds P X → ds.length = 2 := by (intro ds P X h; first | exact h | (obtain ⟨_, rfl, _⟩ := h; rfl) | (obtain ⟨_, _, rfl, _⟩ := h; rfl) | (obtain ⟨_, _, _, rfl, _⟩ := h; rfl) | (obtain ⟨_, _, _, _, rfl, _⟩ := h; rfl) | (obtain ⟨_, _, _, _, _, rfl, _⟩ := h; rfl) | (obtain ⟨_, _, _, _, _, _, rfl, _⟩ := h; rfl) | (obtain ⟨_, _, _, _, _, _, _, rfl, _⟩ := h; rfl) | (obtain ⟨_, _, _, _, _, _, _, _, rfl, _⟩ := h; rfl) | (obtain ⟨_, _, _, _, _, _, _, _, _, rfl, _⟩ := h; rfl) | (obtain ⟨_, _, _, _, _, _, _, _, _, _, rfl, _⟩ := h; rfl) | (obtain ⟨_, _, _, _, _, _, _, _, _, _, _, rfl, _⟩ := h; rfl) | (obtain ⟨_, _, _, _, _, _, _, _, _, _, _, _, rfl, _⟩ := h; rfl) | (obtain ⟨_, _, _, _, _, _, _, _, _, _, _, _, _, rfl, _⟩ := h; rfl) | (obtain ⟨_, _, _, _, _, _, _, _, _, _, _, _, _, _, rfl, _⟩ := h; rfl) | (obtain ⟨_, _, _, _, _, _, _, _, _, _, _, _, _, _, _, rfl, _⟩ := h; rfl) | (obtain ⟨_, _, _, _, _, _, _, _, _, _, _, _, _, _, _, _, rfl, _⟩ := h; rfl) | (obtain ⟨_, _, _, _, _, _, _, _, _, _, _, _, _, _, _, _, _, rfl, _⟩ := h; rfl) | (obtain ⟨_, _, _, _, _, _, _, _, _, _, _, _, _, _, _, _, _, _, rfl, _⟩ := h; rfl) | (obtain ⟨_, _, _, _, _, _, _, _, _, _, _, _, _, _, _, _, _, _, _, rfl, _⟩ := h; rfl) | (obtain ⟨_, _, _, _, _, _, _, _, _, _, _, _, _, _, _, _, _, _, _, _, rfl, _⟩ := h; rfl) | (obtain ⟨_, _, _, _, _, _, _, _, _, _, _, _, _, _, _, _, _, _, _, _, _, rfl, _⟩ := h; rfl) | (obtain ⟨rfl, _⟩ := h; rfl))
theorem ok__shapes_made (T : Txt K mg) : FnOk Pg T.w0 K mg base (L2.CX Pg T.w0) 5 T.D__shapes_made.f T.D__shapes_made.d ["shapes", "steps"] ((spX K (F__shapes_made T))) := by
  have G_BadScript___init__ := ok_BadScript___init__ (Pg := Pg) (base := base) T
  have G_made_shape := ok_made_shape (Pg := Pg) (base := base) T
  refine T.D__shapes_made.F.okX (k := 4) sc__shapes_made (spX_len (len__shapes_made T)) (fun cdv A outer s H vs Q E hr h => ?_)
  refine ⟨_, (pss_cons (ps_set (i := 2) sc__shapes_made.nd rfl (by first | exact Or.inl rfl | exact Or.inr rfl) (pe_callTy (call_list_ofK (K := K) rfl) (by rfl) T.n_list (by decide +kernel) (pa_cons (pv 0) pa_nil)))
    (pss_cons (ps_for (passes_of rfl) rfl (pi_enumT (K := K) rfl (by rfl) T.n_enumerate (pa_cons (pv 1) pa_nil)) (by exact (pg_tupK (K := K) (n := 2) rfl rfl (pgs_cons (pg_name (i := 3) sc__shapes_made.nd rfl (by first | exact Or.inl rfl | exact Or.inr rfl)) (pgs_cons (pg_name (i := 4) sc__shapes_made.nd rfl (by first | exact Or.inl rfl | exact Or.inr rfl)) pgs_nil))))
      (pss_cons (ps_set (i := 5) sc__shapes_made.nd rfl (by first | exact Or.inl rfl | exact Or.inr rfl) (pe_call G_made_shape (hr.mono (by decide)) (by rfl) T.D_made_shape.g T.D_made_shape.F.kp T.D_made_shape.b .nil pass0 (pa_cons (pv 2) (pa_cons (pv 4) pa_nil))))
    (pss_cons (ps_if (pt_cmpR op_isN (pv 5) pe_non (nomark _))
      (pss_one (ps_raise rfl (takes_of rfl rfl rfl rfl) (pmk_oex T.x_BadScript.o T.x_BadScript.i T.ty_BadScript___init__ G_BadScript___init__ (hr.mono (by decide)) T.D_BadScript___init__.b .nil pass0 (by rfl) T.x_BadScript.g (pa_cons (pv 3) pa_nil))))
      pss_nil)
    (pss_one (ps_expr (pe_bm PySem.F.plainAttrs_list PySem.F.slot_list_append PySem.F.type_list_append mt_append (pv 2) (pa_cons (pv 5) pa_nil)))))))
    (pss_one (ps_ret (pe_callTy (call_tuple_ofK (K := K) rfl) (by rfl) T.n_tuple (by decide +kernel) (pa_cons (pv 2) pa_nil)))))), ?_⟩
  try dsimp only [cxOf, Cx.blk, Cx.nox, Cx.wish]
  refine body_ofXO h fun W ds P X eK f => ?_
  subst eK
  obtain ⟨shs, xs, rfl, l6, l16, jx, lx, hP, hX⟩ := f
  refine so_seq (so_list ?_)
  walk_at "pd"
  refine ⟨_, .inr rfl, nrefs_sh shs, fun p _ => ?_⟩
  refine so_seq (so_for (it_enumT ?_))
  walk_at "pd"
  refine ⟨xs, rfl, fun i ω δ => ∃ cur a b c, ω = [(p, cur.map shD)] ∧ δ = [some (.lst (shs.map shD)), some (.tup xs), some (.obj p), a, b, c] ∧ cur.length = shs.length + i ∧ runS cur (xs.drop i) i = runS shs xs 0, ⟨shs, none, none, none, rfl, rfl, rfl, rfl⟩, fun i d ω δ hd hI => ?_, fun ω δ hI => ?_⟩
  · obtain ⟨cur, a, b, c, rfl, rfl, hl, hr⟩ := hI
    obtain ⟨x, hx, rfl⟩ := enumD_get hd
    have hi := (List.getElem?_eq_some_iff.mp hx).1
    have hm := List.mem_of_getElem? hx
    have hdr : xs.drop i = x :: xs.drop (i + 1) := by
      rw [List.drop_eq_getElem_cons hi]
      congr 1
      exact (List.getElem?_eq_some_iff.mp hx).2
    rw [hdr] at hr
    refine ⟨_, gd_tup2 (gd_name (gd_name ?_))⟩
    refine so_seq (so_asgL (evl_put (a := p) 2 rfl List.mem_cons_self (evl_ev ?_)))
    walk_at "pd"
    refine ⟨cur, x, rfl, by omega, jd_mem jx hm, lx x hm, nref_opt _, ?_⟩
    cases em : madeD cur x with
    | none =>
      have hX : X (T.x_BadScript.C, [("part", .int i)]) := hX i (by
        rw [← hr]
        unfold runS
        rw [em])
      unfold optSh
      refine so_seq (so_lift ?_)
      walk_at "pd"
      refine sx_raise1 T.x_BadScript.o T.nx_BadScript_part ?_
      walk_at "pd"
      exact ⟨_, rfl, hX⟩
    | some q =>
      have hr : runS (cur ++ [q]) (xs.drop (i + 1)) (i + 1) = runS shs xs 0 := by
        rw [← hr]
        conv => rhs; unfold runS
        rw [em]
      unfold optSh shD
      refine so_seq (so_lift ?_)
      walk_at "pd"
      refine so_app (i := 2) rfl List.mem_cons_self (fun es m => ?_) ?_
      · rw [List.mem_singleton] at m
        cases m
        rw [List.length_map]
        omega
      walk_at "pd"
      refine ⟨_, rfl, cur ++ [q], _, _, _, ?_, rfl, by rw [List.length_append]; show cur.length + 1 = _; omega, hr⟩
      simp only [putO, List.map_cons, List.map_nil, if_true, List.map_append]
  · obtain ⟨cur, a, b, c, rfl, rfl, hl, hr⟩ := hI
    rw [enumD_length, List.drop_length] at hr
    have hP : P (.tup (cur.map shD)) := hP cur (by rw [← hr]; rfl)
    refine so_retL (evl_put (a := p) 2 rfl List.mem_cons_self (evl_ev ?_))
    walk_at "pd"
    refine ⟨nref_tup fun x hx => ?_, hP⟩
    obtain ⟨q, _, rfl⟩ := List.mem_map.mp hx
    exact nref_opt (some q)
def F__are_grids {K : PySem.W.Frag} {mg : Str → Option Value} (T : Txt K mg) : FD := fun ds P => ∃ x : D, ds = [x] ∧ Jd K x ∧ x.len ≤ 1000 ∧ okIns2 T.k_Grid.C x ∧ P (.bl (areG x))
theorem len__are_grids {K : PySem.W.Frag} {mg : Str → Option Value} (T : Txt K mg) : ∀ ds P, (F__are_grids T) ds P → ds.length = 1 := by (intro ds P h; first | exact h | (obtain ⟨_, rfl, _⟩ := h; rfl) | (obtain ⟨_, _, rfl, _⟩ := h; rfl) | (obtain ⟨_, _, _, rfl, _⟩ := h; rfl) | (obtain ⟨_, _, _, _, rfl, _⟩ := h; rfl) | (obtain ⟨_, _, _, _, _, rfl, _⟩ := h; rfl) | (obtain ⟨_, _, _, _, _, _, rfl, _⟩ := h; rfl) | (obtain ⟨_, _, _, _, _, _, _, rfl, _⟩ := h; rfl) | (obtain ⟨_, _, _, _, _, _, _, _, rfl, _⟩ := h; rfl) | (obtain ⟨_, _, _, _, _, _, _, _, _, rfl, _⟩ := h; rfl) | (obtain ⟨_, _, _, _, _, _, _, _, _, _, rfl, _⟩ := h; rfl) | (obtain ⟨_, _, _, _, _, _, _, _, _, _, _, rfl, _⟩ := h; rfl) | (obtain ⟨_, _, _, _, _, _, _, _, _, _, _, _, rfl, _⟩ := h; rfl) | (obtain ⟨_, _, _, _, _, _, _, _, _, _, _, _, _, rfl, _⟩ := h; rfl) | (obtain ⟨_, _, _, _, _, _, _, _, _, _, _, _, _, rfl, _⟩ := h; rfl) | (obtain ⟨_, _, _, _, _, _, _, _, _, _, _, _, _, _, rfl, _⟩ := h; rfl) | (obtain ⟨_, _, _, _, _, _, _, _, _, _, _, _, _, _, _, rfl, _⟩ := h; rfl) | (obtain ⟨_, _, _, _, _, _, _, _, _, _, _, _, _, _, _, _, rfl, _⟩ := h; rfl) | (obtain ⟨_, _, _, _, _, _, _, _, _, _, _, _, _, _, _, _, _, rfl, _⟩ := h; rfl) | (obtain ⟨_, _, _, _, _, _, _, _, _, _, _, _, _, _, _, _, _, _, rfl, _⟩ := h; rfl) | (obtain ⟨_, _, _, _, _, _, _, _, _, _, _, _, _, _, _, _, _, _, _, rfl, _⟩ := h; rfl) | (obtain ⟨_, _, _, _, _, _, _, _, _, _, _, _, _, _, _, _, _, _, _, _, rfl, _⟩ := h; rfl) | (obtain ⟨_, _, _, _, _, _, _, _, _, _, _, _, _, _, _, _, _, _, _, _, _, rfl, _⟩ := h; rfl) | (obtain ⟨rfl, _⟩ := h; rfl))
theorem ok__are_grids (T : Txt K mg) : FnOk Pg T.w0 K mg base CX0 1 T.D__are_grids.f T.D__are_grids.d ["thing"] ((spD K (F__are_grids T))) := by
  refine T.D__are_grids.F.ok (k := 0) sc__are_grids (spD_len (len__are_grids T)) (fun cdv A outer s H vs Q E hr h => ?_)
  refine ⟨_, (pss_cons (ps_if (PW.pt (pw_or (pt_not (pt_val (pe_callB (call_isiK' (K := K) rfl) (by rfl) T.n_isinstance (by decide +kernel) (pa_cons (pv 0) (pa_cons (pe_bltn (v := .ty "tuple") (u := .type "tuple") (by rfl) T.n_tuple (by decide +kernel) rfl) pa_nil))))) (pw_or1 (pt_not (pt_chain op_le op_le pe_int (pe_callB (call_lenK (K := K) rfl) (by rfl) T.n_len (by decide +kernel) (pa_cons (pv 0) pa_nil)) (pe_glob (v := .int 6) rfl T.c_MOST_GRIDS ⟨_, rfl⟩))))))
      (pss_one (ps_ret pe_bl))
      pss_nil)
    (pss_cons (ps_if (pt_not (pt_val (pe_callB (cr_allK (K := K) rfl rfl) (by rfl) T.n_all (by decide +kernel) (pa_cons (pe_lc (own := [("grid", 1)]) rfl sc__are_grids.nd (pi_seqK (K := K) rfl (pv 0)) (blkOk_by (N := ["thing", "grid"]) (sc := defScope s__are_grids) (by decide +kernel)) (fun _ _ _ _ _ => (pg_name (i := 1) sc__are_grids.nd rfl (by first | exact Or.inl rfl | exact Or.inr rfl))) (fun _ _ _ _ _ => pts_nil) (fun _ _ _ _ _ => (pe_callB (call_isiK' (K := K) rfl) (by rfl) T.n_isinstance (by decide +kernel) (pa_cons (pv 1) (pa_cons (pe_glob (v := .ref T.k_Grid.C) rfl T.k_Grid.g rfl) pa_nil))))) pa_nil))))
      (pss_one (ps_ret pe_bl))
      pss_nil)
    (pss_one (ps_ret (pe_callB (cr_allK (K := K) rfl rfl) (by rfl) T.n_all (by decide +kernel) (pa_cons (pe_lc (own := [("grid", 1)]) rfl sc__are_grids.nd (pi_seqK (K := K) rfl (pv 0)) (blkOk_by (N := ["thing", "grid"]) (sc := defScope s__are_grids) (by decide +kernel)) (fun _ _ _ _ _ => (pg_name (i := 1) sc__are_grids.nd rfl (by first | exact Or.inl rfl | exact Or.inr rfl))) (fun _ _ _ _ _ => pts_nil) (fun _ _ _ _ _ => (pe_cmpR (op_eqDK (K := K) rfl (hr_u hr)) (pe_fldK (K := K) rfl (pv 1) rfl) (pe_fldK (K := K) rfl (pe_ix (ix_seqK (K := K) rfl) (pv 0) pe_int (fun _ _ => rfl)) rfl) (nomark _)))) pa_nil)))))), ?_⟩
  try dsimp only [cxOf, Cx.blk, Cx.nox, Cx.wish]
  (refine body_of h fun W ds P eK f => ?_); subst eK
  obtain ⟨x, rfl, jx, lx, ok, hP⟩ := f
  have tx := jd_ty jx
  walk_at "pd"
  refine ⟨fun z => ?_, fun z => ?_⟩
  · obtain ⟨xs, rfl⟩ := tup_of (by simpa using z)
    have lx : (xs.length : Int) ≤ 1000 := lx
    have hP : P (.bl (decide (1 ≤ xs.length) && decide (xs.length ≤ 6) && xs.all D.isIns && xs.all (fun e => decide (basD e = basD (xs.headD .non))))) := hP
    simp only [Jd] at jx
    have jm : ∀ e ∈ xs, Jd1 W.K e := fun e he => jd_ty (jd_mem jx he)
    have oi := ok.2 xs rfl
    have core : 1 ≤ xs.length → xs.length ≤ 6 → SX W WF
        (tSeq
          (tIfS (tNot (tB (tCB (rAll W.K) (tCons (tLc (iSeq W.K (tVar 0)) (gName 1) tYes (tCB (rIsi W.K) (tCons (tVar 1) (tCons (tC (V.ref T.k_Grid.C)) tNil))) (List.map (fun x => x.snd) [(Str.ofString "grid", 1)])) tNil)))) (tRet (tC (V.bl false))) tNext)
          (tRet (tCB (rAll W.K) (tCons (tLc (iSeq W.K (tVar 0)) (gName 1) tYes
            (tOp (rEqD W.K) (tFld W.K (tVar 1) (Str.ofString "bases")) (tFld W.K (tOp (rIx W.K) (tVar 0) (tC (V.int 0))) (Str.ofString "bases")))
            (List.map (fun x => x.snd) [(Str.ofString "grid", 1)])) tNil))))
        [some (D.tup xs), none] (fun x => P D.non) P (fun x => False) (fun x => False) XN := fun h1 h6 => by
      rw [decide_eq_true h1, decide_eq_true h6, Bool.true_and, Bool.true_and] at hP
      walk_at "pd"
      refine ev_lcL (it_seqT (ev_var rfl ⟨xs, rfl, by omega, xs.map fun e => .bl e.isIns, by rw [List.length_map], fun i d y hd hy => ?_, ?_⟩))
      · rw [List.getElem?_map, hd] at hy
        cases hy
        have he := List.mem_of_getElem? hd
        refine ⟨[1], by simp, gd_name ?_⟩
        walk_at "pd"
        refine rc_isiC T.i_Grid (jm d he) (fun E ns ds z => ?_) rfl
        obtain ⟨n, m, ys, e, _⟩ := oi d he E ns ds z
        rw [e] at z
        cases z
        rfl
      · walk_at "pd"
        rw [show (xs.map fun e => D.bl e.isIns) = (xs.map D.isIns).map D.bl from by rw [List.map_map]; rfl]
        refine rc_all ?_
        rw [List.all_map, show xs.all (id ∘ D.isIns) = xs.all D.isIns from rfl]
        cases ha : xs.all D.isIns with
        | false =>
          rw [ha] at hP
          walk_at "pd"
          exact hP
        | true =>
          rw [ha, Bool.true_and] at hP
          obtain ⟨x0, r, rfl⟩ : ∃ x0 r, xs = x0 :: r := by
            cases xs with
            | nil => simp at h1
            | cons a b => exact ⟨a, b, rfl⟩
          obtain ⟨n0, m0, ys0, e0, _⟩ := areG_ins oi ha List.mem_cons_self
          walk_at "pd"
          refine ev_lcL (it_seqT (ev_var rfl ⟨x0 :: r, rfl, by omega, (x0 :: r).map fun e => .bl (decide (basD e = basD x0)), by rw [List.length_map], fun i d y hd hy => ?_, ?_⟩))
          · rw [List.getElem?_map, hd] at hy
            cases hy
            have he := List.mem_of_getElem? hd
            obtain ⟨n, m, ys, e, _⟩ := areG_ins oi ha he
            refine ⟨[1], by simp, gd_name ?_⟩
            subst e e0
            walk_at "pd"
            (refine ev_fld ?_; refine ev_var rfl ?_; refine ⟨_, _, _, _, rfl, T.k_Grid.o.cl, T.na_Grid_bases, rfl, ?_⟩)
            walk_at "pd"
            refine ev_fld ?_
            walk_at "pd"
            refine ⟨_, _, _, _, rfl, T.k_Grid.o.cl, T.na_Grid_bases, rfl, ?_⟩
            walk_at "pd"
            rfl
          · walk_at "pd"
            rw [show ((x0 :: r).map fun e => D.bl (decide (basD e = basD x0))) = ((x0 :: r).map fun e => decide (basD e = basD x0)).map D.bl from by rw [List.map_map]; rfl]
            refine rc_all ?_
            rw [List.all_map]
            exact hP
    have len_no : ¬ (1 ≤ xs.length ∧ xs.length ≤ 6) → P (.bl false) := fun h => by
      have : (decide (1 ≤ xs.length) && decide (xs.length ≤ 6)) = false := by
        by_cases a : 1 ≤ xs.length
        · rw [decide_eq_false (show ¬ xs.length ≤ 6 from fun b => h ⟨a, b⟩), Bool.and_false]
        · rw [decide_eq_false a, Bool.false_and]
      rw [this, Bool.false_and, Bool.false_and] at hP
      exact hP
    walk_at "pd"
    refine ⟨fun z => ?_, fun z => ?_⟩
    · have h1 : 1 ≤ xs.length := by
        have := of_decide_eq_true z
        omega
      walk_at "pd"
      refine ⟨fun z => ?_, fun z => ?_⟩
      · have h6 : ¬ xs.length ≤ 6 := by
          have : decide ((xs.length : Int) ≤ 6) = false := by simpa using z
          have := of_decide_eq_false this
          omega
        walk_at "pd"
        exact len_no fun h => h6 h.2
      · have h6 : xs.length ≤ 6 := by
          have : decide ((xs.length : Int) ≤ 6) = true := by simpa using z
          have := of_decide_eq_true this
          omega
        exact sd_next (core h1 h6)
    · have h1 : ¬ 1 ≤ xs.length := by
        have := of_decide_eq_false z
        omega
      walk_at "pd"
      exact len_no fun h => h1 h.1
  · have e : x.isTup = false := by simpa using z
    have e2 : areG x = false := by cases x <;> first | rfl | cases e
    rw [e2] at hP
    walk_at "pd"
    exact hP
def F__shape_put_in {K : PySem.W.Frag} {mg : Str → Option Value} (T : Txt K mg) : FD := fun ds P => ∃ (n : Int) (m : Nat) (xs : List D), ds = [gd T.k_Grid.C n xs] ∧ Grd n m xs ∧ P (shD (shG (gd T.k_Grid.C n xs)))
theorem len__shape_put_in {K : PySem.W.Frag} {mg : Str → Option Value} (T : Txt K mg) : ∀ ds P, (F__shape_put_in T) ds P → ds.length = 1 := by (intro ds P h; first | exact h | (obtain ⟨_, rfl, _⟩ := h; rfl) | (obtain ⟨_, _, rfl, _⟩ := h; rfl) | (obtain ⟨_, _, _, rfl, _⟩ := h; rfl) | (obtain ⟨_, _, _, _, rfl, _⟩ := h; rfl) | (obtain ⟨_, _, _, _, _, rfl, _⟩ := h; rfl) | (obtain ⟨_, _, _, _, _, _, rfl, _⟩ := h; rfl) | (obtain ⟨_, _, _, _, _, _, _, rfl, _⟩ := h; rfl) | (obtain ⟨_, _, _, _, _, _, _, _, rfl, _⟩ := h; rfl) | (obtain ⟨_, _, _, _, _, _, _, _, _, rfl, _⟩ := h; rfl) | (obtain ⟨_, _, _, _, _, _, _, _, _, _, rfl, _⟩ := h; rfl) | (obtain ⟨_, _, _, _, _, _, _, _, _, _, _, rfl, _⟩ := h; rfl) | (obtain ⟨_, _, _, _, _, _, _, _, _, _, _, _, rfl, _⟩ := h; rfl) | (obtain ⟨_, _, _, _, _, _, _, _, _, _, _, _, _, rfl, _⟩ := h; rfl) | (obtain ⟨_, _, _, _, _, _, _, _, _, _, _, _, _, rfl, _⟩ := h; rfl) | (obtain ⟨_, _, _, _, _, _, _, _, _, _, _, _, _, _, rfl, _⟩ := h; rfl) | (obtain ⟨_, _, _, _, _, _, _, _, _, _, _, _, _, _, _, rfl, _⟩ := h; rfl) | (obtain ⟨_, _, _, _, _, _, _, _, _, _, _, _, _, _, _, _, rfl, _⟩ := h; rfl) | (obtain ⟨_, _, _, _, _, _, _, _, _, _, _, _, _, _, _, _, _, rfl, _⟩ := h; rfl) | (obtain ⟨_, _, _, _, _, _, _, _, _, _, _, _, _, _, _, _, _, _, rfl, _⟩ := h; rfl) | (obtain ⟨_, _, _, _, _, _, _, _, _, _, _, _, _, _, _, _, _, _, _, rfl, _⟩ := h; rfl) | (obtain ⟨_, _, _, _, _, _, _, _, _, _, _, _, _, _, _, _, _, _, _, _, rfl, _⟩ := h; rfl) | (obtain ⟨_, _, _, _, _, _, _, _, _, _, _, _, _, _, _, _, _, _, _, _, _, rfl, _⟩ := h; rfl) | (obtain ⟨rfl, _⟩ := h; rfl))
theorem ok__shape_put_in (T : Txt K mg) : FnOk Pg T.w0 K mg base CX0 1 T.D__shape_put_in.f T.D__shape_put_in.d ["grid"] ((spD K (F__shape_put_in T))) := by
  refine T.D__shape_put_in.F.ok (k := 0) sc__shape_put_in (spD_len (len__shape_put_in T)) (fun cdv A outer s H vs Q E hr h => ?_)
  refine ⟨_, (pss_one (ps_ret (pe_tup (pa_cons (pe_callB (call_lenK (K := K) rfl) (by rfl) T.n_len (by decide +kernel) (pa_cons (pe_fldK (K := K) rfl (pv 0) rfl) pa_nil)) (pa_cons (pe_callB (call_lenK (K := K) rfl) (by rfl) T.n_len (by decide +kernel) (pa_cons (pe_ix (ix_seqK (K := K) rfl) (pe_fldK (K := K) rfl (pv 0) rfl) pe_int (fun _ _ => rfl)) pa_nil)) pa_nil))))), ?_⟩
  try dsimp only [cxOf, Cx.blk, Cx.nox, Cx.wish]
  (refine body_of h fun W ds P eK f => ?_); subst eK
  obtain ⟨n, m, xs, rfl, g, hP⟩ := f
  obtain ⟨r0, h0, hr0, hh⟩ := g.head
  have hP : P (.tup [.int xs.length, .int (xs.headD .non).len]) := hP
  rw [hh] at hP
  walk_at "pd"
  (refine ev_fld ?_; refine ev_var rfl ?_; refine ⟨_, _, _, _, rfl, T.k_Grid.o.cl, T.na_Grid_rows, rfl, ?_⟩)
  walk_at "pd"
  (refine ev_fld ?_; refine ev_var rfl ?_; refine ⟨_, _, _, _, rfl, T.k_Grid.o.cl, T.na_Grid_rows, rfl, ?_⟩)
  walk_at "pd"
  refine rd_ixT (j := 0) rfl h0 ?_
  walk_at "pd"
  rw [hr0]
  exact hP
def F_Script___init__ {K : PySem.W.Frag} {mg : Str → Option Value} (T : Txt K mg) : FI := fun C ds P X => ∃ g st, C = T.k_Script.C ∧ ds = [g, st] ∧ Jd K g ∧ g.len ≤ 1000 ∧ okIns2 T.k_Grid.C g ∧ Jd K st ∧ st.len ≤ 1000 ∧ (∀ xs, st = .tup xs → ∀ x ∈ xs, x.len ≤ 1000) ∧
  (∀ gs xs r, wrongS g st = .non → g = .tup gs → st = .tup xs → runS (gs.map shG) xs 0 = .inl r → P ["grids", "steps", "shapes"] [g, st, .tup (r.map shD)]) ∧ (wrongS g st ≠ .non → X (T.x_BadScript.C, [("part", wrongS g st)]))
theorem len_Script___init__ {K : PySem.W.Frag} {mg : Str → Option Value} (T : Txt K mg) : ∀ C ds P X, (F_Script___init__ T) C ds P X → ds.length + 1 = 3 := by (intro C ds P X h; first | exact congrArg (· + 1) h | (obtain ⟨_, rfl, _⟩ := h; rfl) | (obtain ⟨_, _, rfl, _⟩ := h; rfl) | (obtain ⟨_, _, _, rfl, _⟩ := h; rfl) | (obtain ⟨_, _, _, _, rfl, _⟩ := h; rfl) | (obtain ⟨rfl, _⟩ := h; rfl))
theorem ok_Script___init__ (T : Txt K mg) : FnOk Pg T.w0 K mg base (L2.CX Pg T.w0) 6 T.D_Script___init__.f T.D_Script___init__.d ["self", "grids", "steps"] (spInit K (F_Script___init__ T)) := by
  have G_BadScript___init__ := ok_BadScript___init__ (Pg := Pg) (base := base) T
  have G__are_grids := ok__are_grids (Pg := Pg) (base := base) T
  have G__shape_put_in := ok__shape_put_in (Pg := Pg) (base := base) T
  have G__shapes_made := ok__shapes_made (Pg := Pg) (base := base) T
  refine T.D_Script___init__.F.okX (k := 5) sc_Script___init__ (spInit_len (len_Script___init__ T)) (fun cdv A outer s H vs Q E hr h => ?_)
  refine ⟨_, (pss_cons (ps_if (pt_not (pt_val (pe_call G__are_grids (hr.mono (by decide)) (by rfl) T.D__are_grids.g T.D__are_grids.F.kp T.D__are_grids.b .nil pass0 (pa_cons (pv 1) pa_nil))))
      (pss_one (ps_raise rfl (takes_of rfl rfl rfl rfl) (pmk_oex T.x_BadScript.o T.x_BadScript.i T.ty_BadScript___init__ G_BadScript___init__ (hr.mono (by decide)) T.D_BadScript___init__.b .nil pass0 (by rfl) T.x_BadScript.g (pa_cons pe_str pa_nil))))
      pss_nil)
    (pss_cons (ps_if (PW.pt (pw_or (pt_not (pt_val (pe_callB (call_isiK' (K := K) rfl) (by rfl) T.n_isinstance (by decide +kernel) (pa_cons (pv 2) (pa_cons (pe_bltn (v := .ty "tuple") (u := .type "tuple") (by rfl) T.n_tuple (by decide +kernel) rfl) pa_nil))))) (pw_or1 (pt_cmpR op_gt (pe_callB (call_lenK (K := K) rfl) (by rfl) T.n_len (by decide +kernel) (pa_cons (pv 2) pa_nil)) (pe_glob (v := .int 16) rfl T.c_MOST_STEPS ⟨_, rfl⟩) (nomark _)))))
      (pss_one (ps_raise rfl (takes_of rfl rfl rfl rfl) (pmk_oex T.x_BadScript.o T.x_BadScript.i T.ty_BadScript___init__ G_BadScript___init__ (hr.mono (by decide)) T.D_BadScript___init__.b .nil pass0 (by rfl) T.x_BadScript.g (pa_cons pe_str pa_nil))))
      pss_nil)
    (pss_cons (ps_fld (pv 0) (pv 1) (by rfl))
    (pss_cons (ps_fld (pv 0) (pv 2) (by rfl))
    (pss_one (ps_fld (pv 0) (pe_callS G__shapes_made (hr.mono (by decide)) (by rfl) T.D__shapes_made.g T.D__shapes_made.F.kp T.D__shapes_made.b (fun σ => passAt (takes_of rfl rfl rfl rfl) σ) (pa_cons (pe_lc (own := [("grid", 3)]) rfl sc_Script___init__.nd (pi_seqK (K := K) rfl (pv 1)) (blkOk_by (N := ["self", "grids", "steps", "grid"]) (sc := defScope s_Script___init__) (by decide +kernel)) (fun _ _ _ _ _ => (pg_name (i := 3) sc_Script___init__.nd rfl (by first | exact Or.inl rfl | exact Or.inr rfl))) (fun _ _ _ _ _ => pts_nil) (fun _ _ _ _ _ => (pe_call G__shape_put_in (hr.mono (by decide)) (by rfl) T.D__shape_put_in.g T.D__shape_put_in.F.kp T.D__shape_put_in.b .nil pass0 (pa_cons (pv 3) pa_nil)))) (pa_cons (pv 2) pa_nil))) (by rfl))))))), ?_⟩
  try dsimp only [cxOf, Cx.blk, Cx.nox, Cx.wish]
  refine init_body3 h (by decide) (by decide) (by decide) fun W C x ds P X eK f => ?_
  subst eK
  obtain ⟨g, st, rfl, rfl, jg, lg, ok, js, l0, ls, hP, hX⟩ := f
  have ts := jd_ty js
  refine ⟨T.k_Script.o.cl, T.na_Script_grids, T.na_Script_steps, T.na_Script_shapes, ?_⟩
  walk_at "pd"
  refine ⟨g, rfl, jg, lg, ok, ?_⟩
  cases ha : areG g with
  | false =>
    rw [wrongS_no ha] at hX
    walk_at "pd"
    refine sx_raise1 T.x_BadScript.o T.nx_BadScript_part ?_
    walk_at "pd"
    exact ⟨_, rfl, hX (by intro z; cases z)⟩
  | true =>
    obtain ⟨gs, rfl, g1, g6, gi⟩ := areG_tup ha
    rw [wrongS_in ha] at hX hP
    walk_at "pd"
    have bad : (∀ xs, st = .tup xs → ¬ xs.length ≤ 16) → X (T.x_BadScript.C, [("part", .str "steps")]) := fun h => by
      cases st with
      | tup xs =>
        have e := h xs rfl
        simp only [if_neg e] at hX
        exact hX (by intro z; cases z)
      | _ => exact hX (by intro z; cases z)
    refine ⟨fun z => ?_, fun z => ?_⟩
    · obtain ⟨xs, rfl⟩ := tup_of (by simpa using z)
      have l0 : (xs.length : Int) ≤ 1000 := l0
      have ls := ls xs rfl
      simp only [Jd] at js
      walk_at "pd"
      refine ⟨fun z => ?_, fun z => ?_⟩
      · have z := of_decide_eq_true z
        walk_at "pd"
        refine sx_raise1 T.x_BadScript.o T.nx_BadScript_part ?_
        walk_at "pd"
        exact ⟨_, rfl, bad fun ys e => by cases e; omega⟩
      · have z := of_decide_eq_false z
        have l16 : xs.length ≤ 16 := by omega
        simp only [if_pos l16] at hX hP
        walk_at "pd"
        refine ⟨_, _, rfl, rfl, rfl, ?_⟩
        walk_at "pd"
        refine ev_lcL (it_seqT (ev_var rfl ⟨gs, rfl, by omega, gs.map fun e => shD (shG e), by rw [List.length_map], fun i d y hd hy => ?_, ?_⟩))
        · rw [List.getElem?_map, hd] at hy
          cases hy
          obtain ⟨n, m, ys, rfl, gd1⟩ := areG_ins (ok.2 gs rfl) gi (List.mem_of_getElem? hd)
          refine ⟨[3], by simp, gd_name ?_⟩
          walk_at "pd"
          exact ⟨n, m, ys, rfl, gd1, rfl⟩
        · walk_at "pd"
          rw [show (gs.map fun e => shD (shG e)) = (gs.map shG).map shD from by rw [List.map_map]; rfl]
          refine ⟨gs.map shG, xs, rfl, by rw [List.length_map]; omega, l16, js, ls, fun r e => ?_, fun k e => ?_⟩
          · exact hP gs xs r (by simp only [e]) rfl rfl e
          · have := hX (by
              simp only [e]
              intro z
              cases z)
            simp only [e] at this
            exact this
    · have e : st.isTup = false := by simpa using z
      walk_at "pd"
      refine sx_raise1 T.x_BadScript.o T.nx_BadScript_part ?_
      walk_at "pd"
      exact ⟨_, rfl, bad fun ys e2 => by rw [e2] at e; cases e⟩
theorem world_run {n : Nat} {gs xs : List D} {r : List Sh} (w : WorldP n gs xs r) (C : Addr) : runS ((gs.map fun g => gd C n (gridU g)).map shG) xs 0 = .inl r := by
  have e : (gs.map fun g => gd C n (gridU g)).map shG = gs.map shL := by
    rw [List.map_map]
    exact List.map_congr_left fun g hg => ((w.g g hg).sh C n).1
  rw [e]
  exact w.run
def F__law_script {K : PySem.W.Frag} {mg : Str → Option Value} (T : Txt K mg) : FD := fun ds P => ∃ (n : Nat) (gs xs : List D) (r : List Sh), ds = [worldD n gs xs r] ∧ WorldP n gs xs r ∧ P (scD T.k_Script.C (.tup (gs.map fun g => gd T.k_Grid.C n (gridU g))) (.tup xs) r)
theorem len__law_script {K : PySem.W.Frag} {mg : Str → Option Value} (T : Txt K mg) : ∀ ds P, (F__law_script T) ds P → ds.length = 1 := by (intro ds P h; first | exact h | (obtain ⟨_, rfl, _⟩ := h; rfl) | (obtain ⟨_, _, rfl, _⟩ := h; rfl) | (obtain ⟨_, _, _, rfl, _⟩ := h; rfl) | (obtain ⟨_, _, _, _, rfl, _⟩ := h; rfl) | (obtain ⟨_, _, _, _, _, rfl, _⟩ := h; rfl) | (obtain ⟨_, _, _, _, _, _, rfl, _⟩ := h; rfl) | (obtain ⟨_, _, _, _, _, _, _, rfl, _⟩ := h; rfl) | (obtain ⟨_, _, _, _, _, _, _, _, rfl, _⟩ := h; rfl) | (obtain ⟨_, _, _, _, _, _, _, _, _, rfl, _⟩ := h; rfl) | (obtain ⟨_, _, _, _, _, _, _, _, _, _, rfl, _⟩ := h; rfl) | (obtain ⟨_, _, _, _, _, _, _, _, _, _, _, rfl, _⟩ := h; rfl) | (obtain ⟨_, _, _, _, _, _, _, _, _, _, _, _, rfl, _⟩ := h; rfl) | (obtain ⟨_, _, _, _, _, _, _, _, _, _, _, _, _, rfl, _⟩ := h; rfl) | (obtain ⟨_, _, _, _, _, _, _, _, _, _, _, _, _, rfl, _⟩ := h; rfl) | (obtain ⟨_, _, _, _, _, _, _, _, _, _, _, _, _, _, rfl, _⟩ := h; rfl) | (obtain ⟨_, _, _, _, _, _, _, _, _, _, _, _, _, _, _, rfl, _⟩ := h; rfl) | (obtain ⟨_, _, _, _, _, _, _, _, _, _, _, _, _, _, _, _, rfl, _⟩ := h; rfl) | (obtain ⟨_, _, _, _, _, _, _, _, _, _, _, _, _, _, _, _, _, rfl, _⟩ := h; rfl) | (obtain ⟨_, _, _, _, _, _, _, _, _, _, _, _, _, _, _, _, _, _, rfl, _⟩ := h; rfl) | (obtain ⟨_, _, _, _, _, _, _, _, _, _, _, _, _, _, _, _, _, _, _, rfl, _⟩ := h; rfl) | (obtain ⟨_, _, _, _, _, _, _, _, _, _, _, _, _, _, _, _, _, _, _, _, rfl, _⟩ := h; rfl) | (obtain ⟨_, _, _, _, _, _, _, _, _, _, _, _, _, _, _, _, _, _, _, _, _, rfl, _⟩ := h; rfl) | (obtain ⟨rfl, _⟩ := h; rfl))
theorem ok__law_script (T : Txt K mg) : FnOk Pg T.w0 K mg base CX0 10 T.D__law_script.f T.D__law_script.d ["world"] ((spD K (F__law_script T))) := by
  have G_Script___init__ := ok_Script___init__ (Pg := Pg) (base := base) T
  have G__law_grid := ok__law_grid (Pg := Pg) (base := base) T
  refine T.D__law_script.F.ok (k := 9) sc__law_script (spD_len (len__law_script T)) (fun cdv A outer s H vs Q E hr h => ?_)
  refine ⟨_, (pss_one (ps_ret (pe_make T.k_Script.m G_Script___init__ (hr.mono (by decide)) (by rfl) T.k_Script.g T.D_Script___init__.b .nil passF (pa_cons (pe_callTy (call_tuple_ofK (K := K) rfl) (by rfl) T.n_tuple (by decide +kernel) (pa_cons (pe_lc (own := [("rows", 1)]) rfl sc__law_script.nd (pi_seqK (K := K) rfl (pe_ix (ix_seqK (K := K) rfl) (pv 0) pe_int (fun _ _ => rfl))) (blkOk_by (N := ["world", "rows"]) (sc := defScope s__law_script) (by decide +kernel)) (fun _ _ _ _ _ => (pg_name (i := 1) sc__law_script.nd rfl (by first | exact Or.inl rfl | exact Or.inr rfl))) (fun _ _ _ _ _ => pts_nil) (fun _ _ _ _ _ => (pe_call G__law_grid (hr.mono (by decide)) (by rfl) T.D__law_grid.g T.D__law_grid.F.kp T.D__law_grid.b .nil pass0 (pa_cons (pe_ix (ix_seqK (K := K) rfl) (pv 0) pe_int (fun _ _ => rfl)) (pa_cons (pv 1) pa_nil))))) pa_nil)) (pa_cons (pe_callTy (call_tuple_ofK (K := K) rfl) (by rfl) T.n_tuple (by decide +kernel) (pa_cons (pe_ix (ix_seqK (K := K) rfl) (pv 0) pe_int (fun _ _ => rfl)) pa_nil)) pa_nil))))), ?_⟩
  try dsimp only [cxOf, Cx.blk, Cx.nox, Cx.wish]
  (refine body_of h fun W ds P eK f => ?_); subst eK
  obtain ⟨n, gs, xs, r, rfl, w, hP⟩ := f
  have oG := T.k_Grid.o
  have g3 := w.g3
  have n1 := w.n1
  have n3 := w.n3
  walk_at "pd"
  refine ev_lcL (it_seqL ?_)
  walk_at "pd"
  refine ⟨gs, rfl, by omega, gs.map fun g => gd T.k_Grid.C n (gridU g), by rw [List.length_map], fun i d y hd hy => ?_, ?_⟩
  · rw [List.getElem?_map, hd] at hy
    cases hy
    refine ⟨[1], by simp, gd_name ?_⟩
    walk_at "pd"
    exact ⟨n, d, rfl, w.g d (List.mem_of_getElem? hd), n1, n3, rfl⟩
  walk_at "pd"
  refine rd_ixL (j := 2) rfl rfl ?_
  walk_at "pd"
  have run := world_run w T.k_Grid.C
  have gA : ∀ e ∈ gs.map (fun g => gd T.k_Grid.C n (gridU g)), ∃ m ys, e = gd T.k_Grid.C n ys ∧ Grd n m ys := fun e he => by
    obtain ⟨g, hg, rfl⟩ := List.mem_map.mp he
    obtain ⟨m, gr, _⟩ := (w.g g hg).grd n1 n3
    exact ⟨m, _, rfl, gr⟩
  have lG : (gs.map fun g => gd T.k_Grid.C n (gridU g)).length = gs.length := List.length_map ..
  generalize (gs.map fun g => gd T.k_Grid.C n (gridU g)) = Gs at run gA lG hP ⊢
  have g1 := w.g1
  have gJ : ∀ e ∈ Gs, Gd W.K e := fun e he => by
    obtain ⟨m, ys, rfl, g⟩ := gA e he
    exact ⟨by simp only [Jd]; exact oG, by simp only [D.slim]⟩
  have gO : ∀ e ∈ Gs, okIns T.k_Grid.C e := fun e he => by
    obtain ⟨m, ys, rfl, g⟩ := gA e he
    exact okIns_gd g
  have ggs : Gd W.K (.tup Gs) := .tup gJ (by omega)
  have lx := w.x8
  have xG : ∀ e ∈ xs, Gd W.K e ∧ e.len ≤ 1000 := fun e he => ⟨(isSt_gd W.K (w.x e he)).1, by have := (isSt_gd W.K (w.x e he)).2; omega⟩
  have gxs : Gd W.K (.tup xs) := .tup (fun e he => (xG e he).1) (by omega)
  have m0 : wrongS (.tup Gs) (.tup xs) = .non := wrongS_good (by omega) (by omega) (fun e he => by
    obtain ⟨m, ys, rfl, g⟩ := gA e he
    exact ⟨_, rfl⟩) (by omega) run
  refine ⟨.tup Gs, .tup xs, rfl, rfl, ggs.j, ggs.lenD, okIns2_tup gO, gxs.j, gxs.lenD, fun ys e x hx => by cases e; exact (xG x hx).2, fun gs2 xs2 r2 hn e1 e2 e3 => ?_, fun hn => absurd m0 hn⟩
  cases e1
  cases e2
  rw [run] at e3
  cases e3
  exact hP
def F__law_words : FD := fun ds P => ∃ m : Int, ds = [.st, .int m] ∧ 0 ≤ m ∧ m ≤ 20 ∧ ∀ ws : List D, (ws.length : Int) ≤ m → (∀ e ∈ ws, ∃ w n, e = .str w ∧ kindLen.lookup w = some n) → (∀ e ∈ ws, e ≠ .str "star") → P (.lst ws)
theorem len__law_words : ∀ ds P, F__law_words ds P → ds.length = 2 := by (intro ds P h; first | exact h | (obtain ⟨_, rfl, _⟩ := h; rfl) | (obtain ⟨_, _, rfl, _⟩ := h; rfl) | (obtain ⟨_, _, _, rfl, _⟩ := h; rfl) | (obtain ⟨_, _, _, _, rfl, _⟩ := h; rfl) | (obtain ⟨_, _, _, _, _, rfl, _⟩ := h; rfl) | (obtain ⟨_, _, _, _, _, _, rfl, _⟩ := h; rfl) | (obtain ⟨_, _, _, _, _, _, _, rfl, _⟩ := h; rfl) | (obtain ⟨_, _, _, _, _, _, _, _, rfl, _⟩ := h; rfl) | (obtain ⟨_, _, _, _, _, _, _, _, _, rfl, _⟩ := h; rfl) | (obtain ⟨_, _, _, _, _, _, _, _, _, _, rfl, _⟩ := h; rfl) | (obtain ⟨_, _, _, _, _, _, _, _, _, _, _, rfl, _⟩ := h; rfl) | (obtain ⟨_, _, _, _, _, _, _, _, _, _, _, _, rfl, _⟩ := h; rfl) | (obtain ⟨_, _, _, _, _, _, _, _, _, _, _, _, _, rfl, _⟩ := h; rfl) | (obtain ⟨_, _, _, _, _, _, _, _, _, _, _, _, _, rfl, _⟩ := h; rfl) | (obtain ⟨_, _, _, _, _, _, _, _, _, _, _, _, _, _, rfl, _⟩ := h; rfl) | (obtain ⟨_, _, _, _, _, _, _, _, _, _, _, _, _, _, _, rfl, _⟩ := h; rfl) | (obtain ⟨_, _, _, _, _, _, _, _, _, _, _, _, _, _, _, _, rfl, _⟩ := h; rfl) | (obtain ⟨_, _, _, _, _, _, _, _, _, _, _, _, _, _, _, _, _, rfl, _⟩ := h; rfl) | (obtain ⟨_, _, _, _, _, _, _, _, _, _, _, _, _, _, _, _, _, _, rfl, _⟩ := h; rfl) | (obtain ⟨_, _, _, _, _, _, _, _, _, _, _, _, _, _, _, _, _, _, _, rfl, _⟩ := h; rfl) | (obtain ⟨_, _, _, _, _, _, _, _, _, _, _, _, _, _, _, _, _, _, _, _, rfl, _⟩ := h; rfl) | (obtain ⟨_, _, _, _, _, _, _, _, _, _, _, _, _, _, _, _, _, _, _, _, _, rfl, _⟩ := h; rfl) | (obtain ⟨rfl, _⟩ := h; rfl))
theorem ok__law_words (T : Txt K mg) : FnOk Pg T.w0 K mg base CX0 2 T.D__law_words.f T.D__law_words.d ["state", "many"] ((spD K F__law_words)) := by
  have G__law_pick := ok__law_pick (Pg := Pg) (base := base) T
  refine T.D__law_words.F.ok (k := 1) sc__law_words (spD_len (len__law_words)) (fun cdv A outer s H vs Q E hr h => ?_)
  refine ⟨_, (pss_cons (ps_set (i := 2) sc__law_words.nd rfl (by first | exact Or.inl rfl | exact Or.inr rfl) (pe_lst (pa_cons pe_str (pa_cons pe_str (pa_cons pe_str (pa_cons pe_str (pa_cons pe_str (pa_cons pe_str (pa_cons pe_str (pa_cons pe_str pa_nil))))))))))
    (pss_one (ps_ret (pe_lc (own := [("time", 3)]) rfl sc__law_words.nd (pi_range1 (by rfl) T.n_range (pa_cons (pe_call G__law_pick (hr.mono (by decide)) (by rfl) T.D__law_pick.g T.D__law_pick.F.kp T.D__law_pick.b .nil pass0 (pa_cons (pv 0) (pa_cons (pe_op (op_plusK (K := K) rfl) (pv 1) pe_int) pa_nil))) pa_nil)) (blkOk_by (N := ["state", "many", "menu", "time"]) (sc := defScope s__law_words) (by decide +kernel)) (fun _ _ _ _ _ => (pg_name (i := 3) sc__law_words.nd rfl (by first | exact Or.inl rfl | exact Or.inr rfl))) (fun _ _ _ _ _ => pts_nil) (fun _ _ _ _ _ => (pe_ix (ix_seqK (K := K) rfl) (pv 2) (pe_call G__law_pick (hr.mono (by decide)) (by rfl) T.D__law_pick.g T.D__law_pick.F.kp T.D__law_pick.b .nil pass0 (pa_cons (pv 0) (pa_cons pe_int pa_nil))) (fun _ _ => rfl))))))), ?_⟩
  try dsimp only [cxOf, Cx.blk, Cx.nox, Cx.wish]
  (refine body_of h fun W ds P eK f => ?_); subst eK
  obtain ⟨m, rfl, m0, m1, hP⟩ := f
  walk_at "pd"
  refine ev_lcAll (fun e => e ≠ .str "star" ∧ ∃ w n, e = .str w ∧ kindLen.lookup w = some n) (it_rng1 ?_)
  walk_at "pd"
  refine pick_small (by omega) (by omega) fun r r0 r1 => ?_
  walk_at "pd"
  refine ⟨_, rfl, by omega, by omega, by rw [rngD_length]; omega, fun k d hd => ⟨[3], by simp, gd_name ?_⟩, fun l hl hG => ?_⟩
  · walk_at "pd"
    refine pick_lit (by decide +kernel) fun w w0 w1 => ?_
    refine rd_ixLm (by omega) (by show w < 8; omega) fun d hd => ?_
    simp only [List.mem_cons, List.not_mem_nil, or_false] at hd
    rcases hd with rfl | rfl | rfl | rfl | rfl | rfl | rfl | rfl <;> exact ⟨(by intro z; cases z), _, _, rfl, rfl⟩
  · rw [rngD_length] at hl
    exact hP l (by omega) (fun e he => (hG e he).2) fun e he => (hG e he).1
def F_many_grids {K : PySem.W.Frag} {mg : Str → Option Value} (T : Txt K mg) : FD := fun ds P => ∃ (g st : D) (r : List Sh), ds = [scD T.k_Script.C g st r] ∧ P (.int r.length)
theorem len_many_grids {K : PySem.W.Frag} {mg : Str → Option Value} (T : Txt K mg) : ∀ ds P, (F_many_grids T) ds P → ds.length = 1 := by (intro ds P h; first | exact h | (obtain ⟨_, rfl, _⟩ := h; rfl) | (obtain ⟨_, _, rfl, _⟩ := h; rfl) | (obtain ⟨_, _, _, rfl, _⟩ := h; rfl) | (obtain ⟨_, _, _, _, rfl, _⟩ := h; rfl) | (obtain ⟨_, _, _, _, _, rfl, _⟩ := h; rfl) | (obtain ⟨_, _, _, _, _, _, rfl, _⟩ := h; rfl) | (obtain ⟨_, _, _, _, _, _, _, rfl, _⟩ := h; rfl) | (obtain ⟨_, _, _, _, _, _, _, _, rfl, _⟩ := h; rfl) | (obtain ⟨_, _, _, _, _, _, _, _, _, rfl, _⟩ := h; rfl) | (obtain ⟨_, _, _, _, _, _, _, _, _, _, rfl, _⟩ := h; rfl) | (obtain ⟨_, _, _, _, _, _, _, _, _, _, _, rfl, _⟩ := h; rfl) | (obtain ⟨_, _, _, _, _, _, _, _, _, _, _, _, rfl, _⟩ := h; rfl) | (obtain ⟨_, _, _, _, _, _, _, _, _, _, _, _, _, rfl, _⟩ := h; rfl) | (obtain ⟨_, _, _, _, _, _, _, _, _, _, _, _, _, rfl, _⟩ := h; rfl) | (obtain ⟨_, _, _, _, _, _, _, _, _, _, _, _, _, _, rfl, _⟩ := h; rfl) | (obtain ⟨_, _, _, _, _, _, _, _, _, _, _, _, _, _, _, rfl, _⟩ := h; rfl) | (obtain ⟨_, _, _, _, _, _, _, _, _, _, _, _, _, _, _, _, rfl, _⟩ := h; rfl) | (obtain ⟨_, _, _, _, _, _, _, _, _, _, _, _, _, _, _, _, _, rfl, _⟩ := h; rfl) | (obtain ⟨_, _, _, _, _, _, _, _, _, _, _, _, _, _, _, _, _, _, rfl, _⟩ := h; rfl) | (obtain ⟨_, _, _, _, _, _, _, _, _, _, _, _, _, _, _, _, _, _, _, rfl, _⟩ := h; rfl) | (obtain ⟨_, _, _, _, _, _, _, _, _, _, _, _, _, _, _, _, _, _, _, _, rfl, _⟩ := h; rfl) | (obtain ⟨_, _, _, _, _, _, _, _, _, _, _, _, _, _, _, _, _, _, _, _, _, rfl, _⟩ := h; rfl) | (obtain ⟨rfl, _⟩ := h; rfl))
theorem ok_many_grids (T : Txt K mg) : FnOk Pg T.w0 K mg base CX0 1 T.D_many_grids.f T.D_many_grids.d ["script"] ((spD K (F_many_grids T))) := by
  refine T.D_many_grids.F.ok (k := 0) sc_many_grids (spD_len (len_many_grids T)) (fun cdv A outer s H vs Q E hr h => ?_)
  refine ⟨_, (pss_one (ps_ret (pe_callB (call_lenK (K := K) rfl) (by rfl) T.n_len (by decide +kernel) (pa_cons (pe_fldK (K := K) rfl (pv 0) rfl) pa_nil)))), ?_⟩
  try dsimp only [cxOf, Cx.blk, Cx.nox, Cx.wish]
  (refine body_of h fun W ds P eK f => ?_); subst eK
  obtain ⟨g, st, r, rfl, hP⟩ := f
  walk_at "pd"
  refine ev_fld ?_
  refine ev_var rfl ?_
  refine ⟨_, _, _, _, rfl, T.k_Script.o.cl, T.na_Script_shapes, rfl, ?_⟩
  walk_at "pd"
  rw [List.length_map]
  exact hP
theorem ok_GridError___init__ (T : Txt K mg) : FnOk Pg T.w0 K mg base CX0 1 T.D_GridError___init__.f T.D_GridError___init__.d ["self"] (spI0 K) := by
  refine T.D_GridError___init__.F.ok (k := 0) sc_GridError___init__ (fun vs H Q E h => by obtain ⟨_, _, rfl, _⟩ := h; rfl) (fun cdv A outer s H vs Q E hr h => ?_)
  refine ⟨_, (pss_one (ps_expr (pe_veinit (by rfl) T.n_ValueError T.v_VE (pa_cons (pv 0) pa_nil)))), ?_⟩
  try dsimp only [cxOf, Cx.blk, Cx.nox, Cx.wish]
  exact init0_body h
def F_check_grid {K : PySem.W.Frag} {mg : Str → Option Value} (T : Txt K mg) : FX := fun ds P X => ∃ (g st x : D) (r : List Sh), ds = [scD T.k_Script.C g st r, x] ∧ Jd1 K x ∧ (isIx r.length x = true → P .non) ∧ (isIx r.length x = false → X (T.x_NoGrid.C, []))
theorem len_check_grid {K : PySem.W.Frag} {mg : Str → Option Value} (T : Txt K mg) : ∀ ds P X, (F_check_grid T) ds P X → ds.length = 2 := by (intro ds P X h; first | exact h | (obtain ⟨_, rfl, _⟩ := h; rfl) | (obtain ⟨_, _, rfl, _⟩ := h; rfl) | (obtain ⟨_, _, _, rfl, _⟩ := h; rfl) | (obtain ⟨_, _, _, _, rfl, _⟩ := h; rfl) | (obtain ⟨_, _, _, _, _, rfl, _⟩ := h; rfl) | (obtain ⟨_, _, _, _, _, _, rfl, _⟩ := h; rfl) | (obtain ⟨_, _, _, _, _, _, _, rfl, _⟩ := h; rfl) | (obtain ⟨_, _, _, _, _, _, _, _, rfl, _⟩ := h; rfl) | (obtain ⟨_, _, _, _, _, _, _, _, _, rfl, _⟩ := h; rfl) | (obtain ⟨_, _, _, _, _, _, _, _, _, _, rfl, _⟩ := h; rfl) | (obtain ⟨_, _, _, _, _, _, _, _, _, _, _, rfl, _⟩ := h; rfl) | (obtain ⟨_, _, _, _, _, _, _, _, _, _, _, _, rfl, _⟩ := h; rfl) | (obtain ⟨_, _, _, _, _, _, _, _, _, _, _, _, _, rfl, _⟩ := h; rfl) | (obtain ⟨_, _, _, _, _, _, _, _, _, _, _, _, _, _, rfl, _⟩ := h; rfl) | (obtain ⟨_, _, _, _, _, _, _, _, _, _, _, _, _, _, _, rfl, _⟩ := h; rfl) | (obtain ⟨_, _, _, _, _, _, _, _, _, _, _, _, _, _, _, _, rfl, _⟩ := h; rfl) | (obtain ⟨_, _, _, _, _, _, _, _, _, _, _, _, _, _, _, _, _, rfl, _⟩ := h; rfl) | (obtain ⟨_, _, _, _, _, _, _, _, _, _, _, _, _, _, _, _, _, _, rfl, _⟩ := h; rfl) | (obtain ⟨_, _, _, _, _, _, _, _, _, _, _, _, _, _, _, _, _, _, _, rfl, _⟩ := h; rfl) | (obtain ⟨_, _, _, _, _, _, _, _, _, _, _, _, _, _, _, _, _, _, _, _, rfl, _⟩ := h; rfl) | (obtain ⟨_, _, _, _, _, _, _, _, _, _, _, _, _, _, _, _, _, _, _, _, _, rfl, _⟩ := h; rfl) | (obtain ⟨rfl, _⟩ := h; rfl))
theorem ok_check_grid (T : Txt K mg) : FnOk Pg T.w0 K mg base (L2.CX Pg T.w0) 3 T.D_check_grid.f T.D_check_grid.d ["script", "at"] ((spX K (F_check_grid T))) := by
  have G_GridError___init__ := ok_GridError___init__ (Pg := Pg) (base := base) T
  have G_is_index := ok_is_index (Pg := Pg) (base := base) T
  have G_many_grids := ok_many_grids (Pg := Pg) (base := base) T
  refine T.D_check_grid.F.okX (k := 2) sc_check_grid (spX_len (len_check_grid T)) (fun cdv A outer s H vs Q E hr h => ?_)
  refine ⟨_, (pss_one (ps_if (pt_not (pt_val (pe_call G_is_index (hr.mono (by decide)) (by rfl) T.D_is_index.g T.D_is_index.F.kp T.D_is_index.b .nil pass0 (pa_cons (pv 1) (pa_cons (pe_call G_many_grids (hr.mono (by decide)) (by rfl) T.D_many_grids.g T.D_many_grids.F.kp T.D_many_grids.b .nil pass0 (pa_cons (pv 0) pa_nil)) pa_nil)))))
      (pss_one (ps_raise rfl (takes_of rfl rfl rfl rfl) (pmk_oe0 T.x_NoGrid.o T.x_NoGrid.i T.ty_GridError___init__ G_GridError___init__ (hr.mono (by decide)) T.D_GridError___init__.b pass0 (by rfl) T.x_NoGrid.g)))
      pss_nil)), ?_⟩
  try dsimp only [cxOf, Cx.blk, Cx.nox, Cx.wish]
  (refine body_ofX h fun W ds P X eK f => ?_); subst eK
  obtain ⟨g, st, x, r, rfl, jx, hP, hX⟩ := f
  walk_at "pd"
  refine ⟨g, st, r, rfl, ?_⟩
  walk_at "pd"
  refine ⟨x, _, rfl, jx, ?_⟩
  change ∃ b, D.bl (isIx r.length x) = D.bl b ∧ _
  refine ⟨_, rfl, fun q => ?_, fun q => ?_⟩
  · exact sx_raise0 T.x_NoGrid.o (hX (by simpa using q))
  · walk_at "pd"
    exact hP (by simpa using q)
def F__beside_cells {K : PySem.W.Frag} {mg : Str → Option Value} (T : Txt K mg) : FD := fun ds P => ∃ (n : Int) (m : Nat) (xs rows : List D), ds = [gd T.k_Grid.C n xs, .tup rows] ∧ Grd n m xs ∧ Shp m xs rows ∧ P (.lst (besD xs rows))
theorem len__beside_cells {K : PySem.W.Frag} {mg : Str → Option Value} (T : Txt K mg) : ∀ ds P, (F__beside_cells T) ds P → ds.length = 2 := by (intro ds P h; first | exact h | (obtain ⟨_, rfl, _⟩ := h; rfl) | (obtain ⟨_, _, rfl, _⟩ := h; rfl) | (obtain ⟨_, _, _, rfl, _⟩ := h; rfl) | (obtain ⟨_, _, _, _, rfl, _⟩ := h; rfl) | (obtain ⟨_, _, _, _, _, rfl, _⟩ := h; rfl) | (obtain ⟨_, _, _, _, _, _, rfl, _⟩ := h; rfl) | (obtain ⟨_, _, _, _, _, _, _, rfl, _⟩ := h; rfl) | (obtain ⟨_, _, _, _, _, _, _, _, rfl, _⟩ := h; rfl) | (obtain ⟨_, _, _, _, _, _, _, _, _, rfl, _⟩ := h; rfl) | (obtain ⟨_, _, _, _, _, _, _, _, _, _, rfl, _⟩ := h; rfl) | (obtain ⟨_, _, _, _, _, _, _, _, _, _, _, rfl, _⟩ := h; rfl) | (obtain ⟨_, _, _, _, _, _, _, _, _, _, _, _, rfl, _⟩ := h; rfl) | (obtain ⟨_, _, _, _, _, _, _, _, _, _, _, _, _, rfl, _⟩ := h; rfl) | (obtain ⟨_, _, _, _, _, _, _, _, _, _, _, _, _, rfl, _⟩ := h; rfl) | (obtain ⟨_, _, _, _, _, _, _, _, _, _, _, _, _, _, rfl, _⟩ := h; rfl) | (obtain ⟨_, _, _, _, _, _, _, _, _, _, _, _, _, _, _, rfl, _⟩ := h; rfl) | (obtain ⟨_, _, _, _, _, _, _, _, _, _, _, _, _, _, _, _, rfl, _⟩ := h; rfl) | (obtain ⟨_, _, _, _, _, _, _, _, _, _, _, _, _, _, _, _, _, rfl, _⟩ := h; rfl) | (obtain ⟨_, _, _, _, _, _, _, _, _, _, _, _, _, _, _, _, _, _, rfl, _⟩ := h; rfl) | (obtain ⟨_, _, _, _, _, _, _, _, _, _, _, _, _, _, _, _, _, _, _, rfl, _⟩ := h; rfl) | (obtain ⟨_, _, _, _, _, _, _, _, _, _, _, _, _, _, _, _, _, _, _, _, rfl, _⟩ := h; rfl) | (obtain ⟨_, _, _, _, _, _, _, _, _, _, _, _, _, _, _, _, _, _, _, _, _, rfl, _⟩ := h; rfl) | (obtain ⟨rfl, _⟩ := h; rfl))
theorem ok__beside_cells (T : Txt K mg) : FnOk Pg T.w0 K mg base CX0 1 T.D__beside_cells.f T.D__beside_cells.d ["grid", "numbers"] ((spD K (F__beside_cells T))) := by
  refine T.D__beside_cells.F.ok (k := 0) sc__beside_cells (spD_len (len__beside_cells T)) (fun cdv A outer s H vs Q E hr h => ?_)
  refine ⟨_, (pss_one (ps_ret (pe_lc2 (own := [("row", 3), ("line", 4), ("pair", 2)]) (vs1 := [2]) rfl sc__beside_cells.nd (pi_zipAK (K := K) rfl (by rfl) T.n_zip (pa_cons (pe_fldK (K := K) rfl (pv 0) rfl) (pa_cons (pv 1) pa_nil))) (blkOk_by (N := ["grid", "numbers", "pair", "row", "line"]) (sc := defScope s__beside_cells) (by decide +kernel)) (by decide) (fun _ _ _ _ _ => (by exact (pg_tupK (K := K) (n := 2) rfl rfl (pgs_cons (pg_name (i := 3) sc__beside_cells.nd rfl (by first | exact Or.inl rfl | exact Or.inr rfl)) (pgs_cons (pg_name (i := 4) sc__beside_cells.nd rfl (by first | exact Or.inl rfl | exact Or.inr rfl)) pgs_nil))))) (fun _ _ _ _ _ => pts_nil) (fun _ _ _ _ _ => (pi_zipN (K := K) rfl (by rfl) T.n_zip (pa_cons (pv 3) (pa_cons (pv 4) pa_nil)))) (fun _ _ _ _ _ => (pg_name (i := 2) sc__beside_cells.nd rfl (by first | exact Or.inl rfl | exact Or.inr rfl))) (fun _ _ _ _ _ => pts_nil) (fun _ _ _ _ _ => (pv 2))))), ?_⟩
  try dsimp only [cxOf, Cx.blk, Cx.nox, Cx.wish]
  (refine body_of h fun W ds P eK f => ?_); subst eK
  obtain ⟨n, m, xs, rows, rfl, g, sh, hP⟩ := f
  have l10 := g.l10
  have m10 := g.m10
  have all : ∀ k, (besD (xs.take k) (rows.take k)).length ≤ 100 := fun k => by
    have := bes_len (rows := rows.take k) m10 (xs := xs.take k) fun e he => g.tup e (List.mem_of_mem_take he)
    have l : (xs.take k).length ≤ xs.length := by rw [List.length_take]; omega
    omega
  walk_at "pd"
  refine ev_lc2 (it_zipT ?_)
  walk_at "pd"
  (refine ev_fld ?_; refine ev_var rfl ?_; refine ⟨_, _, _, _, rfl, T.k_Grid.o.cl, T.na_Grid_rows, rfl, ?_⟩)
  walk_at "pd"
  refine ⟨_, _, rfl, fun i acc => acc = besD (xs.take i) (rows.take i), ?_, fun i d acc hd ha => ?_, fun acc ha => ?_⟩
  · rfl
  · obtain ⟨e, r, he, hr, rfl⟩ := zipD_get hd
    obtain ⟨cs, rfl, hc, _⟩ := g.at he
    obtain ⟨ds, rfl, hd2⟩ := sh.at hr
    refine ⟨[3] ++ [4], by simp, gd_tup2 (gd_name (gd_name ?_))⟩
    refine et_yes ⟨fun _ => it_zipN ?_, fun z => by cases z⟩
    walk_at "pd"
    refine ⟨_, _, rfl, fun j acc1 => acc1 = besD (xs.take i) (rows.take i) ++ (zipD cs ds).take j, ?_, fun j p acc1 hp h1 => ⟨?_, [2], by simp, gd_name ?_⟩, fun acc1 h1 => ?_⟩
    · rw [ha]
      exact (List.append_nil _).symm
    · rw [h1, List.length_append]
      have a := all i
      have b : ((zipD cs ds).take j).length ≤ cs.length := by
        rw [List.length_take, zipD_len2]
        omega
      omega
    · refine et_yes ⟨fun _ => ?_, fun z => by cases z⟩
      walk_at "pd"
      show acc1 ++ [p] = _ ++ (zipD cs ds).take (j + 1)
      rw [h1, zip_take hp, List.append_assoc]
    · show acc1 = besD (xs.take (i + 1)) (rows.take (i + 1))
      rw [bes_take he hr, h1, List.take_length]
      rfl
  · have e : xs.take (zipD xs rows).length = xs ∧ rows.take (zipD xs rows).length = rows := by
      rw [zipD_len2, sh.l, Nat.min_self]
      exact ⟨List.take_length, by rw [← sh.l]; exact List.take_length⟩
    rw [ha, e.1, e.2]
    exact hP
def F__has_shape {K : PySem.W.Frag} {mg : Str → Option Value} (T : Txt K mg) : FD := fun ds P => ∃ (n : Int) (m : Nat) (xs : List D) (x : D), ds = [gd T.k_Grid.C n xs, x] ∧ Grd n m xs ∧ Jd K x ∧ x.len ≤ 1000 ∧ P (.bl (shp m xs.length x))
theorem len__has_shape {K : PySem.W.Frag} {mg : Str → Option Value} (T : Txt K mg) : ∀ ds P, (F__has_shape T) ds P → ds.length = 2 := by (intro ds P h; first | exact h | (obtain ⟨_, rfl, _⟩ := h; rfl) | (obtain ⟨_, _, rfl, _⟩ := h; rfl) | (obtain ⟨_, _, _, rfl, _⟩ := h; rfl) | (obtain ⟨_, _, _, _, rfl, _⟩ := h; rfl) | (obtain ⟨_, _, _, _, _, rfl, _⟩ := h; rfl) | (obtain ⟨_, _, _, _, _, _, rfl, _⟩ := h; rfl) | (obtain ⟨_, _, _, _, _, _, _, rfl, _⟩ := h; rfl) | (obtain ⟨_, _, _, _, _, _, _, _, rfl, _⟩ := h; rfl) | (obtain ⟨_, _, _, _, _, _, _, _, _, rfl, _⟩ := h; rfl) | (obtain ⟨_, _, _, _, _, _, _, _, _, _, rfl, _⟩ := h; rfl) | (obtain ⟨_, _, _, _, _, _, _, _, _, _, _, rfl, _⟩ := h; rfl) | (obtain ⟨_, _, _, _, _, _, _, _, _, _, _, _, rfl, _⟩ := h; rfl) | (obtain ⟨_, _, _, _, _, _, _, _, _, _, _, _, _, rfl, _⟩ := h; rfl) | (obtain ⟨_, _, _, _, _, _, _, _, _, _, _, _, _, rfl, _⟩ := h; rfl) | (obtain ⟨_, _, _, _, _, _, _, _, _, _, _, _, _, _, rfl, _⟩ := h; rfl) | (obtain ⟨_, _, _, _, _, _, _, _, _, _, _, _, _, _, _, rfl, _⟩ := h; rfl) | (obtain ⟨_, _, _, _, _, _, _, _, _, _, _, _, _, _, _, _, rfl, _⟩ := h; rfl) | (obtain ⟨_, _, _, _, _, _, _, _, _, _, _, _, _, _, _, _, _, rfl, _⟩ := h; rfl) | (obtain ⟨_, _, _, _, _, _, _, _, _, _, _, _, _, _, _, _, _, _, rfl, _⟩ := h; rfl) | (obtain ⟨_, _, _, _, _, _, _, _, _, _, _, _, _, _, _, _, _, _, _, rfl, _⟩ := h; rfl) | (obtain ⟨_, _, _, _, _, _, _, _, _, _, _, _, _, _, _, _, _, _, _, _, rfl, _⟩ := h; rfl) | (obtain ⟨_, _, _, _, _, _, _, _, _, _, _, _, _, _, _, _, _, _, _, _, _, rfl, _⟩ := h; rfl) | (obtain ⟨rfl, _⟩ := h; rfl))
theorem ok__has_shape (T : Txt K mg) : FnOk Pg T.w0 K mg base CX0 1 T.D__has_shape.f T.D__has_shape.d ["grid", "thing"] ((spD K (F__has_shape T))) := by
  refine T.D__has_shape.F.ok (k := 0) sc__has_shape (spD_len (len__has_shape T)) (fun cdv A outer s H vs Q E hr h => ?_)
  refine ⟨_, (pss_cons (ps_if (PW.pt (pw_or (pt_not (pt_val (pe_callB (call_isiK' (K := K) rfl) (by rfl) T.n_isinstance (by decide +kernel) (pa_cons (pv 1) (pa_cons (pe_bltn (v := .ty "tuple") (u := .type "tuple") (by rfl) T.n_tuple (by decide +kernel) rfl) pa_nil))))) (pw_or1 (pt_cmpR (op_neDK (K := K) rfl (hr_u hr)) (pe_callB (call_lenK (K := K) rfl) (by rfl) T.n_len (by decide +kernel) (pa_cons (pv 1) pa_nil)) (pe_callB (call_lenK (K := K) rfl) (by rfl) T.n_len (by decide +kernel) (pa_cons (pe_fldK (K := K) rfl (pv 0) rfl) pa_nil)) (nomark _)))))
      (pss_one (ps_ret pe_bl))
      pss_nil)
    (pss_one (ps_ret (pe_callB (cr_allK (K := K) rfl rfl) (by rfl) T.n_all (by decide +kernel) (pa_cons (pe_lc (own := [("row", 2)]) rfl sc__has_shape.nd (pi_seqK (K := K) rfl (pv 1)) (blkOk_by (N := ["grid", "thing", "row"]) (sc := defScope s__has_shape) (by decide +kernel)) (fun _ _ _ _ _ => (pg_name (i := 2) sc__has_shape.nd rfl (by first | exact Or.inl rfl | exact Or.inr rfl))) (fun _ _ _ _ _ => pts_nil) (fun _ _ _ _ _ => (pe_and (pe_callB (call_isiK' (K := K) rfl) (by rfl) T.n_isinstance (by decide +kernel) (pa_cons (pv 2) (pa_cons (pe_bltn (v := .ty "tuple") (u := .type "tuple") (by rfl) T.n_tuple (by decide +kernel) rfl) pa_nil))) (pe_one (pe_cmpR (op_eqDK (K := K) rfl (hr_u hr)) (pe_callB (call_lenK (K := K) rfl) (by rfl) T.n_len (by decide +kernel) (pa_cons (pv 2) pa_nil)) (pe_callB (call_lenK (K := K) rfl) (by rfl) T.n_len (by decide +kernel) (pa_cons (pe_ix (ix_seqK (K := K) rfl) (pe_fldK (K := K) rfl (pv 0) rfl) pe_int (fun _ _ => rfl)) pa_nil)) (nomark _)))))) pa_nil))))), ?_⟩
  try dsimp only [cxOf, Cx.blk, Cx.nox, Cx.wish]
  (refine body_of h fun W ds P eK f => ?_); subst eK
  obtain ⟨n, m, xs, x, rfl, g, jx, lx, hP⟩ := f
  obtain ⟨r0, h0, hr0, _⟩ := g.head
  have tx := jd_ty jx
  walk_at "pd"
  by_cases hT : x.isTup = true
  · obtain ⟨rows, rfl⟩ := tup_of hT
    have lx : (rows.length : Int) ≤ 1000 := lx
    simp only [shp] at hP
    walk_at "pd"
    (refine ev_fld ?_; refine ev_var rfl ?_; refine ⟨_, _, _, _, rfl, T.k_Grid.o.cl, T.na_Grid_rows, rfl, ?_⟩)
    walk_at "pd"
    refine ⟨fun q => ?_, fun q => ?_⟩
    · have q' : decide ((rows.length : Int) = xs.length) = false := by simpa using q
      rw [q', Bool.false_and] at hP
      walk_at "pd"
      exact hP
    · have q' : decide ((rows.length : Int) = xs.length) = true := by simpa using q
      rw [q', Bool.true_and] at hP
      walk_at "pd"
      refine ev_lcL (it_seqT (ev_var rfl ⟨rows, rfl, by omega, rows.map fun r => .bl (decide (r.len = (m : Int))), by rw [List.length_map], fun i d y hd hy => ?_, ?_⟩))
      · rw [List.getElem?_map, hd] at hy
        cases hy
        simp only [Jd] at jx
        have td := jd_ty (jd_mem jx (List.mem_of_getElem? hd))
        refine ⟨[2], by simp, gd_name ?_⟩
        walk_at "pd"
        by_cases hD : d.isTup = true
        · obtain ⟨cs, rfl⟩ := tup_of hD
          walk_at "pd"
          (refine ev_fld ?_; refine ev_var rfl ?_; refine ⟨_, _, _, _, rfl, T.k_Grid.o.cl, T.na_Grid_rows, rfl, ?_⟩)
          walk_at "pd"
          refine rd_ixT (j := 0) rfl h0 ?_
          walk_at "pd"
          rw [hr0]
          rfl
        · have hD' : d.isTup = false := by simpa using hD
          rw [hD']
          walk_at "pd"
          have e : decide (d.len = (m : Int)) = false := decide_eq_false fun z => by
            obtain ⟨cs, rfl, _⟩ := len_tup z
            cases hD'
          exact (congrArg D.bl e).symm
      · walk_at "pd"
        have e : (rows.map fun r => D.bl (decide (r.len = (m : Int)))) = (rows.map fun r => decide (r.len = (m : Int))).map D.bl := by rw [List.map_map]; rfl
        rw [e]
        refine rc_all ?_
        rw [List.all_map]
        exact hP
  · have hT' : x.isTup = false := by simpa using hT
    rw [hT']
    walk_at "pd"
    have e : shp m xs.length x = false := by cases x <;> first | rfl | cases hT'
    rw [e] at hP
    exact hP
def F__is_number_for (K : PySem.W.Frag) : FD := fun ds P => ∃ u x : D, ds = [u, x] ∧ Jd K x ∧ P (.bl (numP (.tup [u, x])))
theorem len__is_number_for (K : PySem.W.Frag) : ∀ ds P, (F__is_number_for K) ds P → ds.length = 2 := by (intro ds P h; first | exact h | (obtain ⟨_, rfl, _⟩ := h; rfl) | (obtain ⟨_, _, rfl, _⟩ := h; rfl) | (obtain ⟨_, _, _, rfl, _⟩ := h; rfl) | (obtain ⟨_, _, _, _, rfl, _⟩ := h; rfl) | (obtain ⟨_, _, _, _, _, rfl, _⟩ := h; rfl) | (obtain ⟨_, _, _, _, _, _, rfl, _⟩ := h; rfl) | (obtain ⟨_, _, _, _, _, _, _, rfl, _⟩ := h; rfl) | (obtain ⟨_, _, _, _, _, _, _, _, rfl, _⟩ := h; rfl) | (obtain ⟨_, _, _, _, _, _, _, _, _, rfl, _⟩ := h; rfl) | (obtain ⟨_, _, _, _, _, _, _, _, _, _, rfl, _⟩ := h; rfl) | (obtain ⟨_, _, _, _, _, _, _, _, _, _, _, rfl, _⟩ := h; rfl) | (obtain ⟨_, _, _, _, _, _, _, _, _, _, _, _, rfl, _⟩ := h; rfl) | (obtain ⟨_, _, _, _, _, _, _, _, _, _, _, _, _, rfl, _⟩ := h; rfl) | (obtain ⟨_, _, _, _, _, _, _, _, _, _, _, _, _, rfl, _⟩ := h; rfl) | (obtain ⟨_, _, _, _, _, _, _, _, _, _, _, _, _, _, rfl, _⟩ := h; rfl) | (obtain ⟨_, _, _, _, _, _, _, _, _, _, _, _, _, _, _, rfl, _⟩ := h; rfl) | (obtain ⟨_, _, _, _, _, _, _, _, _, _, _, _, _, _, _, _, rfl, _⟩ := h; rfl) | (obtain ⟨_, _, _, _, _, _, _, _, _, _, _, _, _, _, _, _, _, rfl, _⟩ := h; rfl) | (obtain ⟨_, _, _, _, _, _, _, _, _, _, _, _, _, _, _, _, _, _, rfl, _⟩ := h; rfl) | (obtain ⟨_, _, _, _, _, _, _, _, _, _, _, _, _, _, _, _, _, _, _, rfl, _⟩ := h; rfl) | (obtain ⟨_, _, _, _, _, _, _, _, _, _, _, _, _, _, _, _, _, _, _, _, rfl, _⟩ := h; rfl) | (obtain ⟨_, _, _, _, _, _, _, _, _, _, _, _, _, _, _, _, _, _, _, _, _, rfl, _⟩ := h; rfl) | (obtain ⟨rfl, _⟩ := h; rfl))
theorem ok__is_number_for (T : Txt K mg) : FnOk Pg T.w0 K mg base CX0 3 T.D__is_number_for.f T.D__is_number_for.d ["unit", "thing"] ((spD K (F__is_number_for K))) := by
  have G_is_fraction := ok_is_fraction (Pg := Pg) (base := base) T
  refine T.D__is_number_for.F.ok (k := 2) sc__is_number_for (spD_len (len__is_number_for K)) (fun cdv A outer s H vs Q E hr h => ?_)
  refine ⟨_, (pss_one (ps_ret (pe_and (pe_call G_is_fraction (hr.mono (by decide)) (by rfl) T.D_is_fraction.g T.D_is_fraction.F.kp T.D_is_fraction.b .nil pass0 (pa_cons (pv 1) pa_nil)) (pe_one (pe_or (pe_cmpR op_notN (pv 0) pe_non (nomark _)) (pe_one (pe_cmpR (op_eqDK (K := K) rfl (hr_u hr)) (pe_ix (ix_seqK (K := K) rfl) (pv 1) pe_int (fun _ _ => rfl)) pe_int (nomark _)))))))), ?_⟩
  try dsimp only [cxOf, Cx.blk, Cx.nox, Cx.wish]
  (refine body_of h fun W ds P eK f => ?_); subst eK
  obtain ⟨u, x, rfl, jx, hP⟩ := f
  simp only [numP] at hP
  walk_at "pd"
  refine ⟨x, rfl, jx, ?_⟩
  walk_at "pd"
  refine ⟨fun q => ?_, fun q => ?_⟩
  · rw [q, Bool.true_and] at hP
    obtain ⟨p, rfl, hp⟩ := fr_of q
    walk_at "pd"
    refine ⟨fun q2 => ?_, fun q2 => ?_⟩
    · have e : u.isNon = true := by simpa using q2
      rw [e] at hP
      walk_at "pd"
      exact hP
    · have e : u.isNon = false := by simpa using q2
      rw [e] at hP
      exact hP
  · rw [q, Bool.false_and] at hP
    exact hP
def F_are_numbers {K : PySem.W.Frag} {mg : Str → Option Value} (T : Txt K mg) : FD := fun ds P => ∃ (n : Int) (m : Nat) (xs : List D) (x : D), ds = [gd T.k_Grid.C n xs, x] ∧ Grd n m xs ∧ Jd K x ∧ x.len ≤ 1000 ∧ P (.bl (areN m xs x))
theorem len_are_numbers {K : PySem.W.Frag} {mg : Str → Option Value} (T : Txt K mg) : ∀ ds P, (F_are_numbers T) ds P → ds.length = 2 := by (intro ds P h; first | exact h | (obtain ⟨_, rfl, _⟩ := h; rfl) | (obtain ⟨_, _, rfl, _⟩ := h; rfl) | (obtain ⟨_, _, _, rfl, _⟩ := h; rfl) | (obtain ⟨_, _, _, _, rfl, _⟩ := h; rfl) | (obtain ⟨_, _, _, _, _, rfl, _⟩ := h; rfl) | (obtain ⟨_, _, _, _, _, _, rfl, _⟩ := h; rfl) | (obtain ⟨_, _, _, _, _, _, _, rfl, _⟩ := h; rfl) | (obtain ⟨_, _, _, _, _, _, _, _, rfl, _⟩ := h; rfl) | (obtain ⟨_, _, _, _, _, _, _, _, _, rfl, _⟩ := h; rfl) | (obtain ⟨_, _, _, _, _, _, _, _, _, _, rfl, _⟩ := h; rfl) | (obtain ⟨_, _, _, _, _, _, _, _, _, _, _, rfl, _⟩ := h; rfl) | (obtain ⟨_, _, _, _, _, _, _, _, _, _, _, _, rfl, _⟩ := h; rfl) | (obtain ⟨_, _, _, _, _, _, _, _, _, _, _, _, _, rfl, _⟩ := h; rfl) | (obtain ⟨_, _, _, _, _, _, _, _, _, _, _, _, _, rfl, _⟩ := h; rfl) | (obtain ⟨_, _, _, _, _, _, _, _, _, _, _, _, _, _, rfl, _⟩ := h; rfl) | (obtain ⟨_, _, _, _, _, _, _, _, _, _, _, _, _, _, _, rfl, _⟩ := h; rfl) | (obtain ⟨_, _, _, _, _, _, _, _, _, _, _, _, _, _, _, _, rfl, _⟩ := h; rfl) | (obtain ⟨_, _, _, _, _, _, _, _, _, _, _, _, _, _, _, _, _, rfl, _⟩ := h; rfl) | (obtain ⟨_, _, _, _, _, _, _, _, _, _, _, _, _, _, _, _, _, _, rfl, _⟩ := h; rfl) | (obtain ⟨_, _, _, _, _, _, _, _, _, _, _, _, _, _, _, _, _, _, _, rfl, _⟩ := h; rfl) | (obtain ⟨_, _, _, _, _, _, _, _, _, _, _, _, _, _, _, _, _, _, _, _, rfl, _⟩ := h; rfl) | (obtain ⟨_, _, _, _, _, _, _, _, _, _, _, _, _, _, _, _, _, _, _, _, _, rfl, _⟩ := h; rfl) | (obtain ⟨rfl, _⟩ := h; rfl))
theorem ok_are_numbers (T : Txt K mg) : FnOk Pg T.w0 K mg base CX0 4 T.D_are_numbers.f T.D_are_numbers.d ["grid", "thing"] ((spD K (F_are_numbers T))) := by
  have G__beside_cells := ok__beside_cells (Pg := Pg) (base := base) T
  have G__has_shape := ok__has_shape (Pg := Pg) (base := base) T
  have G__is_number_for := ok__is_number_for (Pg := Pg) (base := base) T
  refine T.D_are_numbers.F.ok (k := 3) sc_are_numbers (spD_len (len_are_numbers T)) (fun cdv A outer s H vs Q E hr h => ?_)
  refine ⟨_, (pss_cons (ps_if (pt_not (pt_val (pe_call G__has_shape (hr.mono (by decide)) (by rfl) T.D__has_shape.g T.D__has_shape.F.kp T.D__has_shape.b .nil pass0 (pa_cons (pv 0) (pa_cons (pv 1) pa_nil)))))
      (pss_one (ps_ret pe_bl))
      pss_nil)
    (pss_one (ps_ret (pe_callB (cr_allK (K := K) rfl rfl) (by rfl) T.n_all (by decide +kernel) (pa_cons (pe_lc (own := [("unit", 2), ("number", 3)]) rfl sc_are_numbers.nd (pi_seqK (K := K) rfl (pe_call G__beside_cells (hr.mono (by decide)) (by rfl) T.D__beside_cells.g T.D__beside_cells.F.kp T.D__beside_cells.b .nil pass0 (pa_cons (pv 0) (pa_cons (pv 1) pa_nil)))) (blkOk_by (N := ["grid", "thing", "unit", "number"]) (sc := defScope s_are_numbers) (by decide +kernel)) (fun _ _ _ _ _ => (by exact (pg_tupK (K := K) (n := 2) rfl rfl (pgs_cons (pg_name (i := 2) sc_are_numbers.nd rfl (by first | exact Or.inl rfl | exact Or.inr rfl)) (pgs_cons (pg_name (i := 3) sc_are_numbers.nd rfl (by first | exact Or.inl rfl | exact Or.inr rfl)) pgs_nil))))) (fun _ _ _ _ _ => pts_nil) (fun _ _ _ _ _ => (pe_call G__is_number_for (hr.mono (by decide)) (by rfl) T.D__is_number_for.g T.D__is_number_for.F.kp T.D__is_number_for.b .nil pass0 (pa_cons (pv 2) (pa_cons (pv 3) pa_nil))))) pa_nil))))), ?_⟩
  try dsimp only [cxOf, Cx.blk, Cx.nox, Cx.wish]
  (refine body_of h fun W ds P eK f => ?_); subst eK
  obtain ⟨n, m, xs, x, rfl, g, jx, lx, hP⟩ := f
  walk_at "pd"
  refine ⟨n, m, xs, x, rfl, g, jx, lx, ?_⟩
  unfold areN at hP
  walk_at "pd"
  refine ⟨fun q => ?_, fun q => ?_⟩
  · have q' : shp m xs.length x = false := by simpa using q
    rw [q', Bool.false_and] at hP
    walk_at "pd"
    exact hP
  · have q' : shp m xs.length x = true := by simpa using q
    rw [q', Bool.true_and] at hP
    obtain ⟨rows, rfl, sh⟩ := shp_of q'
    have hP : P (.bl ((besD xs rows).all numP)) := hP
    simp only [Jd] at jx
    have bl := bes_len (rows := rows) g.m10 g.tup
    have l10 := g.l10
    walk_at "pd"
    refine ev_lcL (it_seqL ?_)
    walk_at "pd"
    refine ⟨n, m, xs, rows, rfl, g, sh, ?_⟩
    refine ⟨_, rfl, by omega, (besD xs rows).map fun p => .bl (numP p), by rw [List.length_map], fun i d y hd hy => ?_, ?_⟩
    · rw [List.getElem?_map, hd] at hy
      cases hy
      obtain ⟨i, j, e, r, u, x, h1, h2, h3, h4, rfl⟩ := mem_bes (List.mem_of_getElem? hd)
      have jr := jd_mem jx (List.mem_of_getElem? h2)
      obtain ⟨cs, rfl, _⟩ := sh.at h2
      simp only [Jd] at jr
      refine ⟨[2] ++ [3], by simp, gd_tup2 (gd_name (gd_name ?_))⟩
      walk_at "pd"
      exact ⟨u, x, rfl, jd_mem jr (List.mem_of_getElem? h4), rfl⟩
    · walk_at "pd"
      have e : ((besD xs rows).map fun p => D.bl (numP p)) = ((besD xs rows).map numP).map D.bl := by rw [List.map_map]; rfl
      rw [e]
      refine rc_all ?_
      rw [List.all_map]
      exact hP
def F_is_above_nought (K : PySem.W.Frag) : FD := fun ds P => ∃ x, ds = [x] ∧ Jd K x ∧ P (.bl (isPos x))
theorem len_is_above_nought (K : PySem.W.Frag) : ∀ ds P, (F_is_above_nought K) ds P → ds.length = 1 := by (intro ds P h; first | exact h | (obtain ⟨_, rfl, _⟩ := h; rfl) | (obtain ⟨_, _, rfl, _⟩ := h; rfl) | (obtain ⟨_, _, _, rfl, _⟩ := h; rfl) | (obtain ⟨_, _, _, _, rfl, _⟩ := h; rfl) | (obtain ⟨_, _, _, _, _, rfl, _⟩ := h; rfl) | (obtain ⟨_, _, _, _, _, _, rfl, _⟩ := h; rfl) | (obtain ⟨_, _, _, _, _, _, _, rfl, _⟩ := h; rfl) | (obtain ⟨_, _, _, _, _, _, _, _, rfl, _⟩ := h; rfl) | (obtain ⟨_, _, _, _, _, _, _, _, _, rfl, _⟩ := h; rfl) | (obtain ⟨_, _, _, _, _, _, _, _, _, _, rfl, _⟩ := h; rfl) | (obtain ⟨_, _, _, _, _, _, _, _, _, _, _, rfl, _⟩ := h; rfl) | (obtain ⟨_, _, _, _, _, _, _, _, _, _, _, _, rfl, _⟩ := h; rfl) | (obtain ⟨_, _, _, _, _, _, _, _, _, _, _, _, _, rfl, _⟩ := h; rfl) | (obtain ⟨_, _, _, _, _, _, _, _, _, _, _, _, _, rfl, _⟩ := h; rfl) | (obtain ⟨_, _, _, _, _, _, _, _, _, _, _, _, _, _, rfl, _⟩ := h; rfl) | (obtain ⟨_, _, _, _, _, _, _, _, _, _, _, _, _, _, _, rfl, _⟩ := h; rfl) | (obtain ⟨_, _, _, _, _, _, _, _, _, _, _, _, _, _, _, _, rfl, _⟩ := h; rfl) | (obtain ⟨_, _, _, _, _, _, _, _, _, _, _, _, _, _, _, _, _, rfl, _⟩ := h; rfl) | (obtain ⟨_, _, _, _, _, _, _, _, _, _, _, _, _, _, _, _, _, _, rfl, _⟩ := h; rfl) | (obtain ⟨_, _, _, _, _, _, _, _, _, _, _, _, _, _, _, _, _, _, _, rfl, _⟩ := h; rfl) | (obtain ⟨_, _, _, _, _, _, _, _, _, _, _, _, _, _, _, _, _, _, _, _, rfl, _⟩ := h; rfl) | (obtain ⟨_, _, _, _, _, _, _, _, _, _, _, _, _, _, _, _, _, _, _, _, _, rfl, _⟩ := h; rfl) | (obtain ⟨rfl, _⟩ := h; rfl))
theorem ok_is_above_nought (T : Txt K mg) : FnOk Pg T.w0 K mg base CX0 3 T.D_is_above_nought.f T.D_is_above_nought.d ["thing"] ((spD K (F_is_above_nought K))) := by
  have G_is_fraction := ok_is_fraction (Pg := Pg) (base := base) T
  refine T.D_is_above_nought.F.ok (k := 2) sc_is_above_nought (spD_len (len_is_above_nought K)) (fun cdv A outer s H vs Q E hr h => ?_)
  refine ⟨_, (pss_one (ps_ret (pe_and (pe_call G_is_fraction (hr.mono (by decide)) (by rfl) T.D_is_fraction.g T.D_is_fraction.F.kp T.D_is_fraction.b .nil pass0 (pa_cons (pv 0) pa_nil)) (pe_one (pe_cmpR op_gt (pe_ix (ix_seqK (K := K) rfl) (pv 0) pe_int (fun _ _ => rfl)) pe_int (nomark _)))))), ?_⟩
  try dsimp only [cxOf, Cx.blk, Cx.nox, Cx.wish]
  (refine body_of h fun W ds P eK f => ?_); subst eK
  obtain ⟨x, rfl, hx, hP⟩ := f
  walk_at "pd"
  refine ⟨x, rfl, hx, ?_⟩
  unfold isPos at hP
  walk_at "pd"
  refine ⟨fun h1 => ?_, fun h1 => ?_⟩
  · obtain ⟨p, rfl, hp⟩ := fr_of h1
    rw [h1] at hP
    walk_at "pd"
    exact hP
  · rw [h1] at hP
    exact hP
def F_are_values {K : PySem.W.Frag} {mg : Str → Option Value} (T : Txt K mg) : FD := fun ds P => ∃ (n : Int) (m : Nat) (xs : List D) (x : D), ds = [gd T.k_Grid.C n xs, x] ∧ Grd n m xs ∧ Jd K x ∧ x.len ≤ 1000 ∧ P (.bl (areV m xs x))
theorem len_are_values {K : PySem.W.Frag} {mg : Str → Option Value} (T : Txt K mg) : ∀ ds P, (F_are_values T) ds P → ds.length = 2 := by (intro ds P h; first | exact h | (obtain ⟨_, rfl, _⟩ := h; rfl) | (obtain ⟨_, _, rfl, _⟩ := h; rfl) | (obtain ⟨_, _, _, rfl, _⟩ := h; rfl) | (obtain ⟨_, _, _, _, rfl, _⟩ := h; rfl) | (obtain ⟨_, _, _, _, _, rfl, _⟩ := h; rfl) | (obtain ⟨_, _, _, _, _, _, rfl, _⟩ := h; rfl) | (obtain ⟨_, _, _, _, _, _, _, rfl, _⟩ := h; rfl) | (obtain ⟨_, _, _, _, _, _, _, _, rfl, _⟩ := h; rfl) | (obtain ⟨_, _, _, _, _, _, _, _, _, rfl, _⟩ := h; rfl) | (obtain ⟨_, _, _, _, _, _, _, _, _, _, rfl, _⟩ := h; rfl) | (obtain ⟨_, _, _, _, _, _, _, _, _, _, _, rfl, _⟩ := h; rfl) | (obtain ⟨_, _, _, _, _, _, _, _, _, _, _, _, rfl, _⟩ := h; rfl) | (obtain ⟨_, _, _, _, _, _, _, _, _, _, _, _, _, rfl, _⟩ := h; rfl) | (obtain ⟨_, _, _, _, _, _, _, _, _, _, _, _, _, rfl, _⟩ := h; rfl) | (obtain ⟨_, _, _, _, _, _, _, _, _, _, _, _, _, _, rfl, _⟩ := h; rfl) | (obtain ⟨_, _, _, _, _, _, _, _, _, _, _, _, _, _, _, rfl, _⟩ := h; rfl) | (obtain ⟨_, _, _, _, _, _, _, _, _, _, _, _, _, _, _, _, rfl, _⟩ := h; rfl) | (obtain ⟨_, _, _, _, _, _, _, _, _, _, _, _, _, _, _, _, _, rfl, _⟩ := h; rfl) | (obtain ⟨_, _, _, _, _, _, _, _, _, _, _, _, _, _, _, _, _, _, rfl, _⟩ := h; rfl) | (obtain ⟨_, _, _, _, _, _, _, _, _, _, _, _, _, _, _, _, _, _, _, rfl, _⟩ := h; rfl) | (obtain ⟨_, _, _, _, _, _, _, _, _, _, _, _, _, _, _, _, _, _, _, _, rfl, _⟩ := h; rfl) | (obtain ⟨_, _, _, _, _, _, _, _, _, _, _, _, _, _, _, _, _, _, _, _, _, rfl, _⟩ := h; rfl) | (obtain ⟨rfl, _⟩ := h; rfl))
theorem ok_are_values (T : Txt K mg) : FnOk Pg T.w0 K mg base CX0 5 T.D_are_values.f T.D_are_values.d ["grid", "thing"] ((spD K (F_are_values T))) := by
  have G__beside_cells := ok__beside_cells (Pg := Pg) (base := base) T
  have G_are_numbers := ok_are_numbers (Pg := Pg) (base := base) T
  have G_is_above_nought := ok_is_above_nought (Pg := Pg) (base := base) T
  refine T.D_are_values.F.ok (k := 4) sc_are_values (spD_len (len_are_values T)) (fun cdv A outer s H vs Q E hr h => ?_)
  refine ⟨_, (pss_cons (ps_if (pt_not (pt_val (pe_call G_are_numbers (hr.mono (by decide)) (by rfl) T.D_are_numbers.g T.D_are_numbers.F.kp T.D_are_numbers.b .nil pass0 (pa_cons (pv 0) (pa_cons (pv 1) pa_nil)))))
      (pss_one (ps_ret pe_bl))
      pss_nil)
    (pss_cons (ps_set (i := 2) sc_are_values.nd rfl (by first | exact Or.inl rfl | exact Or.inr rfl) (pe_call G__beside_cells (hr.mono (by decide)) (by rfl) T.D__beside_cells.g T.D__beside_cells.F.kp T.D__beside_cells.b .nil pass0 (pa_cons (pv 0) (pa_cons (pv 1) pa_nil))))
    (pss_one (ps_ret (pe_callB (cr_allK (K := K) rfl rfl) (by rfl) T.n_all (by decide +kernel) (pa_cons (pe_lc (own := [("unit", 3), ("number", 4)]) rfl sc_are_values.nd (pi_seqK (K := K) rfl (pv 2)) (blkOk_by (N := ["grid", "thing", "pairs", "unit", "number"]) (sc := defScope s_are_values) (by decide +kernel)) (fun _ _ _ _ _ => (by exact (pg_tupK (K := K) (n := 2) rfl rfl (pgs_cons (pg_name (i := 3) sc_are_values.nd rfl (by first | exact Or.inl rfl | exact Or.inr rfl)) (pgs_cons (pg_name (i := 4) sc_are_values.nd rfl (by first | exact Or.inl rfl | exact Or.inr rfl)) pgs_nil))))) (fun _ _ _ _ _ => pts_nil) (fun _ _ _ _ _ => (pe_or (pe_cmpR op_isN (pv 3) pe_non (nomark _)) (pe_one (pe_call G_is_above_nought (hr.mono (by decide)) (by rfl) T.D_is_above_nought.g T.D_is_above_nought.F.kp T.D_is_above_nought.b .nil pass0 (pa_cons (pv 4) pa_nil)))))) pa_nil)))))), ?_⟩
  try dsimp only [cxOf, Cx.blk, Cx.nox, Cx.wish]
  (refine body_of h fun W ds P eK f => ?_); subst eK
  obtain ⟨n, m, xs, x, rfl, g, jx, lx, hP⟩ := f
  walk_at "pd"
  refine ⟨n, m, xs, x, rfl, g, jx, lx, ?_⟩
  unfold areV at hP
  walk_at "pd"
  refine ⟨fun q => ?_, fun q => ?_⟩
  · have q' : areN m xs x = false := by simpa using q
    rw [q', Bool.false_and] at hP
    walk_at "pd"
    exact hP
  · have q' : areN m xs x = true := by simpa using q
    rw [q', Bool.true_and] at hP
    have q2 : shp m xs.length x = true := (Bool.and_eq_true_iff.mp q').1
    obtain ⟨rows, rfl, sh⟩ := shp_of q2
    have hP : P (.bl ((besD xs rows).all valP)) := hP
    simp only [Jd] at jx
    have bl := bes_len (rows := rows) g.m10 g.tup
    have l10 := g.l10
    walk_at "pd"
    refine ⟨n, m, xs, rows, rfl, g, sh, ?_⟩
    walk_at "pd"
    refine ev_lcL (it_seqL ?_)
    walk_at "pd"
    refine ⟨_, rfl, by omega, (besD xs rows).map fun p => .bl (valP p), by rw [List.length_map], fun i d y hd hy => ?_, ?_⟩
    · rw [List.getElem?_map, hd] at hy
      cases hy
      obtain ⟨i, j, e, r, u, x, h1, h2, h3, h4, rfl⟩ := mem_bes (List.mem_of_getElem? hd)
      have jr := jd_mem jx (List.mem_of_getElem? h2)
      obtain ⟨cs, rfl, _⟩ := sh.at h2
      simp only [Jd] at jr
      refine ⟨[3] ++ [4], by simp, gd_tup2 (gd_name (gd_name ?_))⟩
      walk_at "pd"
      refine ⟨fun q => ?_, fun q => ?_⟩
      · walk_at "pd"
        refine ⟨x, rfl, jd_mem jr (List.mem_of_getElem? h4), ?_⟩
        simp only [valP, q, Bool.false_or]
      · walk_at "pd"
        simp only [valP, q, Bool.true_or]
    · walk_at "pd"
      have e : ((besD xs rows).map fun p => D.bl (valP p)) = ((besD xs rows).map valP).map D.bl := by rw [List.map_map]; rfl
      rw [e]
      refine rc_all ?_
      rw [List.all_map]
      exact hP
def F_are_all_values {K : PySem.W.Frag} {mg : Str → Option Value} (T : Txt K mg) : FD := fun ds P => ∃ (n : Int) (k : Nat) (Gs Vs : List D) (st : D) (r : List Sh), ds = [scD T.k_Script.C (.tup Gs) st r, .tup Vs] ∧ ChP T.k_Grid.C n k Gs Vs ∧ Gs.length ≤ 1000 ∧ k ≤ 8000 ∧ P (.bl true)
theorem len_are_all_values {K : PySem.W.Frag} {mg : Str → Option Value} (T : Txt K mg) : ∀ ds P, (F_are_all_values T) ds P → ds.length = 2 := by (intro ds P h; first | exact h | (obtain ⟨_, rfl, _⟩ := h; rfl) | (obtain ⟨_, _, rfl, _⟩ := h; rfl) | (obtain ⟨_, _, _, rfl, _⟩ := h; rfl) | (obtain ⟨_, _, _, _, rfl, _⟩ := h; rfl) | (obtain ⟨_, _, _, _, _, rfl, _⟩ := h; rfl) | (obtain ⟨_, _, _, _, _, _, rfl, _⟩ := h; rfl) | (obtain ⟨_, _, _, _, _, _, _, rfl, _⟩ := h; rfl) | (obtain ⟨_, _, _, _, _, _, _, _, rfl, _⟩ := h; rfl) | (obtain ⟨_, _, _, _, _, _, _, _, _, rfl, _⟩ := h; rfl) | (obtain ⟨_, _, _, _, _, _, _, _, _, _, rfl, _⟩ := h; rfl) | (obtain ⟨_, _, _, _, _, _, _, _, _, _, _, rfl, _⟩ := h; rfl) | (obtain ⟨_, _, _, _, _, _, _, _, _, _, _, _, rfl, _⟩ := h; rfl) | (obtain ⟨_, _, _, _, _, _, _, _, _, _, _, _, _, rfl, _⟩ := h; rfl) | (obtain ⟨_, _, _, _, _, _, _, _, _, _, _, _, _, rfl, _⟩ := h; rfl) | (obtain ⟨_, _, _, _, _, _, _, _, _, _, _, _, _, _, rfl, _⟩ := h; rfl) | (obtain ⟨_, _, _, _, _, _, _, _, _, _, _, _, _, _, _, rfl, _⟩ := h; rfl) | (obtain ⟨_, _, _, _, _, _, _, _, _, _, _, _, _, _, _, _, rfl, _⟩ := h; rfl) | (obtain ⟨_, _, _, _, _, _, _, _, _, _, _, _, _, _, _, _, _, rfl, _⟩ := h; rfl) | (obtain ⟨_, _, _, _, _, _, _, _, _, _, _, _, _, _, _, _, _, _, rfl, _⟩ := h; rfl) | (obtain ⟨_, _, _, _, _, _, _, _, _, _, _, _, _, _, _, _, _, _, _, rfl, _⟩ := h; rfl) | (obtain ⟨_, _, _, _, _, _, _, _, _, _, _, _, _, _, _, _, _, _, _, _, rfl, _⟩ := h; rfl) | (obtain ⟨_, _, _, _, _, _, _, _, _, _, _, _, _, _, _, _, _, _, _, _, _, rfl, _⟩ := h; rfl) | (obtain ⟨rfl, _⟩ := h; rfl))
theorem ok_are_all_values (T : Txt K mg) : FnOk Pg T.w0 K mg base CX0 6 T.D_are_all_values.f T.D_are_all_values.d ["script", "thing"] ((spD K (F_are_all_values T))) := by
  have G_are_values := ok_are_values (Pg := Pg) (base := base) T
  refine T.D_are_all_values.F.ok (k := 5) sc_are_all_values (spD_len (len_are_all_values T)) (fun cdv A outer s H vs Q E hr h => ?_)
  refine ⟨_, (pss_cons (ps_if (PW.pt (pw_or (pt_not (pt_val (pe_callB (call_isiK' (K := K) rfl) (by rfl) T.n_isinstance (by decide +kernel) (pa_cons (pv 1) (pa_cons (pe_bltn (v := .ty "tuple") (u := .type "tuple") (by rfl) T.n_tuple (by decide +kernel) rfl) pa_nil))))) (pw_or1 (pt_cmpR (op_neDK (K := K) rfl (hr_u hr)) (pe_callB (call_lenK (K := K) rfl) (by rfl) T.n_len (by decide +kernel) (pa_cons (pv 1) pa_nil)) (pe_callB (call_lenK (K := K) rfl) (by rfl) T.n_len (by decide +kernel) (pa_cons (pe_fldK (K := K) rfl (pv 0) rfl) pa_nil)) (nomark _)))))
      (pss_one (ps_ret pe_bl))
      pss_nil)
    (pss_one (ps_ret (pe_callB (cr_allK (K := K) rfl rfl) (by rfl) T.n_all (by decide +kernel) (pa_cons (pe_lc (own := [("grid", 2), ("part", 3)]) rfl sc_are_all_values.nd (pi_zipAK (K := K) rfl (by rfl) T.n_zip (pa_cons (pe_fldK (K := K) rfl (pv 0) rfl) (pa_cons (pv 1) pa_nil))) (blkOk_by (N := ["script", "thing", "grid", "part"]) (sc := defScope s_are_all_values) (by decide +kernel)) (fun _ _ _ _ _ => (by exact (pg_tupK (K := K) (n := 2) rfl rfl (pgs_cons (pg_name (i := 2) sc_are_all_values.nd rfl (by first | exact Or.inl rfl | exact Or.inr rfl)) (pgs_cons (pg_name (i := 3) sc_are_all_values.nd rfl (by first | exact Or.inl rfl | exact Or.inr rfl)) pgs_nil))))) (fun _ _ _ _ _ => pts_nil) (fun _ _ _ _ _ => (pe_call G_are_values (hr.mono (by decide)) (by rfl) T.D_are_values.g T.D_are_values.F.kp T.D_are_values.b .nil pass0 (pa_cons (pv 2) (pa_cons (pv 3) pa_nil))))) pa_nil))))), ?_⟩
  try dsimp only [cxOf, Cx.blk, Cx.nox, Cx.wish]
  (refine body_of h fun W ds P eK f => ?_); subst eK
  obtain ⟨n, k, Gs, Vs, st, r, rfl, h, l1000, hk, hP⟩ := f
  have hl := h.l
  walk_at "pd"
  refine ev_fld ?_
  refine ev_var rfl ?_
  refine ⟨_, _, _, _, rfl, T.k_Script.o.cl, T.na_Script_grids, rfl, ?_⟩
  walk_at "pd"
  have e : decide ((Vs.length : Int) = (Gs.length : Int)) = true := decide_eq_true (by omega)
  rw [e]
  walk_at "pd"
  refine ev_lcL (it_zipT ?_)
  walk_at "pd"
  refine ev_fld ?_
  refine ev_var rfl ?_
  refine ⟨_, _, _, _, rfl, T.k_Script.o.cl, T.na_Script_grids, rfl, ?_⟩
  walk_at "pd"
  refine ⟨_, _, rfl, by rw [zipD_len2]; omega, (Gs.map fun _ => true).map D.bl, by rw [List.length_map, List.length_map, zipD_len2]; omega, fun i d y hd hy => ?_, ?_⟩
  · obtain ⟨G, V, h1, h2, rfl⟩ := zipD_get hd
    rw [List.getElem?_map, List.getElem?_map, h1] at hy
    cases hy
    obtain ⟨w, X, rows, rfl, rfl, g, nn, vv⟩ := h.g i G V h1 h2
    refine ⟨[2] ++ [3], by simp, gd_tup2 (gd_name (gd_name ?_))⟩
    walk_at "pd"
    refine ⟨n, w, X, _, rfl, g, (nn.js hk).j, nn.len g, ?_⟩
    rw [areV_of2 nn, vv]
  · walk_at "pd"
    refine rc_all ?_
    have e : (Gs.map fun _ => true).all id = true := List.all_eq_true.mpr fun x hx => by
      obtain ⟨_, _, rfl⟩ := List.mem_map.mp hx
      rfl
    rw [e]
    exact hP
def F_Outcomes___init__ {K : PySem.W.Frag} {mg : Str → Option Value} (T : Txt K mg) : FI := fun C ds P _ => C = T.k_Outcomes.C ∧ ∃ v : V_Outcomes, ds = [numsD v] ∧ P ["nought", "numbers"] [fr (0, 1), numsD v]
theorem len_Outcomes___init__ {K : PySem.W.Frag} {mg : Str → Option Value} (T : Txt K mg) : ∀ C ds P X, (F_Outcomes___init__ T) C ds P X → ds.length + 1 = 2 := by (intro C ds P X h; first | exact congrArg (· + 1) h | (obtain ⟨_, rfl, _⟩ := h; rfl) | (obtain ⟨_, _, rfl, _⟩ := h; rfl) | (obtain ⟨_, _, _, rfl, _⟩ := h; rfl) | (obtain ⟨_, _, _, _, rfl, _⟩ := h; rfl) | (obtain ⟨rfl, _⟩ := h; rfl))
theorem ok_Outcomes___init__ (T : Txt K mg) : FnOk Pg T.w0 K mg base CX0 1 T.D_Outcomes___init__.f T.D_Outcomes___init__.d ["self", "numbers"] (spInit K (F_Outcomes___init__ T)) := by
  refine T.D_Outcomes___init__.F.ok (k := 0) sc_Outcomes___init__ (spInit_len (len_Outcomes___init__ T)) (fun cdv A outer s H vs Q E hr h => ?_)
  refine ⟨_, (pss_cons (ps_fld (pv 0) (pe_tup (pa_cons pe_int (pa_cons pe_int pa_nil))) (by rfl))
    (pss_one (ps_fld (pv 0) (pv 1) (by rfl)))), ?_⟩
  try dsimp only [cxOf, Cx.blk, Cx.nox, Cx.wish]
  refine init_body2E h (by decide) fun W C x ds P X eK f => ?_
  subst eK
  obtain ⟨rfl, v, rfl, hP⟩ := f
  refine ⟨T.k_Outcomes.o.cl, T.na_Outcomes_nought, T.na_Outcomes_numbers, ?_⟩
  walk_at "pd"
  exact hP
theorem nolsts_all : ∀ {xs : List D}, (∀ x ∈ xs, x.nolst = true) → D.nolsts xs = true
  | [], _ => rfl
  | x :: xs, h => by
    show (x.nolst && D.nolsts xs) = true
    rw [h x List.mem_cons_self, nolsts_all fun y hy => h y (List.mem_cons_of_mem _ hy)]
    rfl
theorem scF_nolst {CS CG : Addr} {gs : List (D × List (List D))} {sts : List (Str × List Int)} {r : List Sh} (h : ∀ x ∈ gs, (gridD CG x).nolst = true) : (scF CS CG gs sts r).nolst = true := by
  have a : D.nolsts (gs.map (gridD CG)) = true := nolsts_all fun x hx => by
    obtain ⟨y, hy, rfl⟩ := List.mem_map.mp hx
    exact h y hy
  have b : D.nolsts (sts.map fun s => stD s.1 s.2) = true := nolsts_all fun x hx => by
    obtain ⟨y, hy, rfl⟩ := List.mem_map.mp hx
    refine nolsts_all fun z hz => ?_
    rcases List.mem_cons.mp hz with rfl | hz
    · rfl
    · obtain ⟨i, _, rfl⟩ := List.mem_map.mp hz
      rfl
  have c : D.nolsts (r.map shD) = true := nolsts_all fun x hx => by
    obtain ⟨y, hy, rfl⟩ := List.mem_map.mp hx
    rfl
  show (D.nolsts (gs.map (gridD CG)) && (D.nolsts (sts.map fun s => stD s.1 s.2) && (D.nolsts (r.map shD) && true))) = true
  rw [a, b, c]
  rfl
theorem flat_one {x : D} : ∀ n : Nat, (List.replicate n [x]).flatten = List.replicate n x
  | 0 => rfl
  | n + 1 => by rw [List.replicate_succ, List.flatten_cons, flat_one n]; rfl
theorem nrefs_bls : ∀ L : List Bool, D.nrefs (L.map D.bl) = true
  | [] => rfl
  | b :: L => by
    show (true && D.nrefs (L.map D.bl)) = true
    rw [nrefs_bls L]
    rfl
theorem getD_set {L : List Bool} {i j : Nat} (h : i < L.length) : (L.set i true).getD j false = if i = j then true else L.getD j false := by
  simp only [List.getD_eq_getElem?_getD, List.getElem?_set]
  by_cases e : i = j
  · subst e
    simp [h]
  · simp [e]
theorem blX_at {r : List Bool} {j : Nat} (h : j < r.length) : (r.map D.bl)[j]? = some (.bl (r.getD j false)) := by
  rw [List.getElem?_map, List.getElem?_eq_getElem h, List.getD_eq_getElem?_getD, List.getElem?_eq_getElem h]
  rfl
def F_leading {K : PySem.W.Frag} {mg : Str → Option Value} (T : Txt K mg) : FD := fun ds P => ∃ (gs : List (D × List (List D))) (sts : List (Str × List Int)) (r : List Sh) (a : Nat), ds = [scF T.k_Script.C T.k_Grid.C gs sts r, .int (a : Int)] ∧ SrcX T.k_Grid.C gs sts r ∧ a < gs.length + sts.length ∧
  ∀ L : List Bool, L.length = a + 1 → L.getD a false = true → (∀ i, i ≤ a → L.getD i false = true → ∀ s, sts[i - gs.length]? = some s → gs.length ≤ i → ∀ j ∈ srcs s.1 s.2, L.getD j.toNat false = true) → P (.lst (L.map .bl))
theorem len_leading {K : PySem.W.Frag} {mg : Str → Option Value} (T : Txt K mg) : ∀ ds P, (F_leading T) ds P → ds.length = 2 := by (intro ds P h; first | exact h | (obtain ⟨_, rfl, _⟩ := h; rfl) | (obtain ⟨_, _, rfl, _⟩ := h; rfl) | (obtain ⟨_, _, _, rfl, _⟩ := h; rfl) | (obtain ⟨_, _, _, _, rfl, _⟩ := h; rfl) | (obtain ⟨_, _, _, _, _, rfl, _⟩ := h; rfl) | (obtain ⟨_, _, _, _, _, _, rfl, _⟩ := h; rfl) | (obtain ⟨_, _, _, _, _, _, _, rfl, _⟩ := h; rfl) | (obtain ⟨_, _, _, _, _, _, _, _, rfl, _⟩ := h; rfl) | (obtain ⟨_, _, _, _, _, _, _, _, _, rfl, _⟩ := h; rfl) | (obtain ⟨_, _, _, _, _, _, _, _, _, _, rfl, _⟩ := h; rfl) | (obtain ⟨_, _, _, _, _, _, _, _, _, _, _, rfl, _⟩ := h; rfl) | (obtain ⟨_, _, _, _, _, _, _, _, _, _, _, _, rfl, _⟩ := h; rfl) | (obtain ⟨_, _, _, _, _, _, _, _, _, _, _, _, _, rfl, _⟩ := h; rfl) | (obtain ⟨_, _, _, _, _, _, _, _, _, _, _, _, _, rfl, _⟩ := h; rfl) | (obtain ⟨_, _, _, _, _, _, _, _, _, _, _, _, _, _, rfl, _⟩ := h; rfl) | (obtain ⟨_, _, _, _, _, _, _, _, _, _, _, _, _, _, _, rfl, _⟩ := h; rfl) | (obtain ⟨_, _, _, _, _, _, _, _, _, _, _, _, _, _, _, _, rfl, _⟩ := h; rfl) | (obtain ⟨_, _, _, _, _, _, _, _, _, _, _, _, _, _, _, _, _, rfl, _⟩ := h; rfl) | (obtain ⟨_, _, _, _, _, _, _, _, _, _, _, _, _, _, _, _, _, _, rfl, _⟩ := h; rfl) | (obtain ⟨_, _, _, _, _, _, _, _, _, _, _, _, _, _, _, _, _, _, _, rfl, _⟩ := h; rfl) | (obtain ⟨_, _, _, _, _, _, _, _, _, _, _, _, _, _, _, _, _, _, _, _, rfl, _⟩ := h; rfl) | (obtain ⟨_, _, _, _, _, _, _, _, _, _, _, _, _, _, _, _, _, _, _, _, _, rfl, _⟩ := h; rfl) | (obtain ⟨rfl, _⟩ := h; rfl))
theorem ok_leading (T : Txt K mg) : FnOk Pg T.w0 K mg base CX0 2 T.D_leading.f T.D_leading.d ["script", "at"] ((spD K (F_leading T))) := by
  have G_sources := ok_sources (Pg := Pg) (base := base) T
  refine T.D_leading.F.ok (k := 1) sc_leading (spD_len (len_leading T)) (fun cdv A outer s H vs Q E hr h => ?_)
  refine ⟨_, (pss_cons (ps_set (i := 2) sc_leading.nd rfl (by first | exact Or.inl rfl | exact Or.inr rfl) (pe_callB (call_lenK (K := K) rfl) (by rfl) T.n_len (by decide +kernel) (pa_cons (pe_fldK (K := K) rfl (pv 0) rfl) pa_nil)))
    (pss_cons (ps_set (i := 3) sc_leading.nd rfl (by first | exact Or.inl rfl | exact Or.inr rfl) (pe_op (op_plusK (K := K) rfl) (pe_op op_rep (pe_lst (pa_cons pe_bl pa_nil)) (pv 1)) (pe_lst (pa_cons pe_bl pa_nil))))
    (pss_cons (ps_for PassesOwn.never rfl (pi_range3 (by rfl) T.n_range (pa_cons (pv 1) (pa_cons (pe_op op_sub (pv 2) pe_int) (pa_cons (pe_un un_neg pe_int) pa_nil)))) (pg_name (i := 4) sc_leading.nd rfl (by first | exact Or.inl rfl | exact Or.inr rfl))
      (pss_one (ps_if (pt_val (pe_ix (ix_seqK (K := K) rfl) (pv 3) (pv 4) (fun _ _ => rfl)))
      (pss_one (ps_for PassesOwn.never rfl (pi_seqK (K := K) rfl (pe_call G_sources (hr.mono (by decide)) (by rfl) T.D_sources.g T.D_sources.F.kp T.D_sources.b .nil pass0 (pa_cons (pe_ix (ix_seqK (K := K) rfl) (pe_fldK (K := K) rfl (pv 0) rfl) (pe_op op_sub (pv 4) (pv 2)) (fun _ _ => rfl)) pa_nil))) (pg_name (i := 5) sc_leading.nd rfl (by first | exact Or.inl rfl | exact Or.inr rfl))
      (pss_one (ps_asg pe_bl (pg_sub (pv 3) (pv 5) set_list)))))
      pss_nil)))
    (pss_one (ps_ret (pv 3)))))), ?_⟩
  try dsimp only [cxOf, Cx.blk, Cx.nox, Cx.wish]
  refine body_ofO h fun W ds P eK f => ?_
  subst eK
  obtain ⟨gs, sts, r, a, rfl, hS, al, hP⟩ := f
  have g30 := hS.few
  have nl := scF_nolst (CS := T.k_Script.C) (sts := sts) (r := r) hS.nl
  unfold scF at nl ⊢
  refine so_seq (so_asg ?_)
  walk_at "pd"
  refine ev_fld ?_
  refine ev_var rfl ?_
  refine ⟨_, _, _, _, rfl, T.k_Script.o.cl, T.na_Script_grids, rfl, ?_⟩
  walk_at "pd"
  rw [List.length_map]
  refine so_seq (so_asgN (fun d hd => ?_) ?_)
  · simp [startD] at hd
    rcases hd with rfl | rfl | rfl <;> first | rfl | exact nl
  walk_at "pd"
  refine rd_repL (by omega) (by omega) (by simp; omega) ?_
  walk_at "pd"
  refine rd_plusL (by simp; omega) ?_
  have e0 : (List.replicate ((a : Int)).toNat [D.bl false]).flatten ++ [D.bl true] = (List.replicate a false ++ [true]).map .bl := by
    rw [flat_one, List.map_append, List.map_replicate]
    rfl
  rw [e0]
  refine ⟨_, rfl, nrefs_bls _, fun p fresh => ?_⟩
  refine so_seq (so_for (it_down ?_))
  walk_at "pd"
  refine ⟨_, _, rfl, by have := hS.one; omega, fun k ω δ => ∃ (L : List Bool) (x4 x5 : Option D), Has ω p (L.map .bl) ∧ L.length = a + 1 ∧ L.getD a false = true ∧ (∀ i, i ≤ a → a < i + k → L.getD i false = true → ∀ s, sts[i - gs.length]? = some s → gs.length ≤ i → ∀ j ∈ srcs s.1 s.2, L.getD j.toNat false = true) ∧ δ = [some (scD T.k_Script.C (.tup (gs.map (gridD T.k_Grid.C))) (.tup (sts.map fun s => stD s.1 s.2)) r), some (.int (a : Int)), some (.int (gs.length : Int)), some (.obj p), x4, x5],
    ⟨List.replicate a false ++ [true], none, none, Has.new fresh, by simp, by simp [List.getD_eq_getElem?_getD], fun i h1 h2 => by omega, rfl⟩, fun k d ω δ hd hI => ?_, fun ω δ hI => ?_⟩
  · obtain ⟨L, x4, x5, hp, hl, ha, hc, rfl⟩ := hI
    obtain ⟨hk, rfl⟩ := downD_get hd
    have ka : k ≤ a := by omega
    have many : gs.length ≤ a - k := by omega
    obtain ⟨n0, e1⟩ : ∃ n0 : Nat, n0 = a - k := ⟨_, rfl⟩
    have e2 : ((a : Int) - (k : Int)) = (n0 : Int) := by omega
    rw [e2]
    refine ⟨_, gd_name ?_⟩
    refine so_ifL (evtl_put (a := p) 3 rfl hp.1 (evtl_ev ?_))
    walk_at "pd"
    refine rd_ixL (j := n0) (by omega) (blX_at (by omega)) ?_
    walk_at "pd"
    refine ⟨fun z => ?_, fun z => ?_⟩
    · obtain ⟨s0, hs0⟩ : ∃ s0, sts[n0 - gs.length]? = some s0 := ⟨_, List.getElem?_eq_getElem (by omega)⟩
      obtain ⟨lk, src⟩ := hS.src _ _ hs0
      have below : ∀ j ∈ srcs s0.1 s0.2, ∃ c : Nat, j = (c : Int) ∧ c < n0 := fun j hj => by
        obtain ⟨c, e, h⟩ := src j hj
        exact ⟨c, e, by omega⟩
      refine so_for (it_seqT ?_)
      walk_at "pd"
      refine ev_fld ?_
      refine ev_var rfl ?_
      refine ⟨_, _, _, _, rfl, T.k_Script.o.cl, T.na_Script_steps, rfl, ?_⟩
      walk_at "pd"
      refine rd_ixT (j := n0 - gs.length) (by omega) (by rw [List.getElem?_map, hs0]; rfl) ?_
      walk_at "pd"
      refine ⟨_, _, _, rfl, lk, ?_⟩
      refine ⟨_, rfl, fun q ω δ => ∃ (L2 : List Bool) (x5 : Option D), Has ω p (L2.map .bl) ∧ L2.length = a + 1 ∧ (∀ i, L.getD i false = true → L2.getD i false = true) ∧ (∀ i, n0 ≤ i → L2.getD i false = L.getD i false) ∧ (∀ j ∈ (srcs s0.1 s0.2).take q, L2.getD j.toNat false = true) ∧ δ = [some (scD T.k_Script.C (.tup (gs.map (gridD T.k_Grid.C))) (.tup (sts.map fun s => stD s.1 s.2)) r), some (.int (a : Int)), some (.int (gs.length : Int)), some (.obj p), some (.int (n0 : Int)), x5],
        ⟨L, x5, hp, hl, fun i h => h, fun i _ => rfl, fun j hj => by simp at hj, rfl⟩, fun q d ω δ hd hI => ?_, fun ω δ hI => ?_⟩
      · obtain ⟨L2, x5, hp, hl2, up, same, don, rfl⟩ := hI
        rw [List.getElem?_map] at hd
        obtain ⟨j, hj, rfl⟩ : ∃ j, (srcs s0.1 s0.2)[q]? = some j ∧ d = .int j := by
          cases e : (srcs s0.1 s0.2)[q]? with
          | none => rw [e] at hd; cases hd
          | some j => rw [e] at hd; cases hd; exact ⟨j, rfl, rfl⟩
        obtain ⟨c, rfl, cn⟩ := below j (List.mem_of_getElem? hj)
        refine ⟨_, gd_name ?_⟩
        refine so_set (i := 3) (j := c) rfl hp.1 ?_
        walk_at "pd"
        refine ⟨rfl, fun es m => by rw [hp.2 es m, List.length_map]; omega, L2.set c true, some (.int (c : Int)), ?_, by rw [List.length_set]; exact hl2, fun i h => ?_, fun i h => ?_, fun j hj2 => ?_, rfl⟩
        · rw [List.map_set]
          exact hp.put
        · rw [getD_set (by omega)]
          split
          · rfl
          · exact up i h
        · rw [getD_set (by omega), if_neg (by omega)]
          exact same i h
        · rw [getD_set (by omega)]
          split
          · rfl
          · rename_i ne
            rw [← take_snoc hj] at hj2
            rcases List.mem_append.mp hj2 with h | h
            · exact don j h
            · rw [List.mem_singleton.mp h] at ne
              exact absurd rfl ne
      · obtain ⟨L2, x5, hp, hl2, up, same, don, rfl⟩ := hI
        rw [List.length_map, List.take_length] at don
        refine ⟨L2, some (.int (n0 : Int)), x5, hp, hl2, up a ha, fun i h1 h2 h3 s hs h4 j hj => ?_, rfl⟩
        rcases Nat.lt_or_ge a (i + k) with q | q
        · rw [same i (by omega)] at h3
          exact up _ (hc i h1 q h3 s hs h4 j hj)
        · have : i = n0 := by omega
          subst this
          rw [hs0] at hs
          cases hs
          exact don j hj
    · refine so_next ⟨L, some (.int (n0 : Int)), x5, hp, hl, ha, fun i h1 h2 h3 => ?_, rfl⟩
      rcases Nat.lt_or_ge a (i + k) with q | q
      · exact hc i h1 q h3
      · have : i = n0 := by omega
        subst this
        rw [z] at h3
        cases h3
  · obtain ⟨L, x4, x5, hp, hl, ha, hc, rfl⟩ := hI
    rw [downD_length] at hc
    exact so_retO (i := 3) rfl hp.1 (hP L hl ha fun i h1 h3 s hs h4 j hj => hc i h1 (by omega) h3 s hs h4 j hj)
def F_turned : FD := fun ds P => ∃ (M : GX) (c : Nat), ds = [gridX M] ∧ M ≠ [] ∧ M.length ≤ 12 ∧ (∀ r ∈ M, r.length = c) ∧ c ≤ 1000 ∧ P (gridX (colsX M c))
theorem len_turned : ∀ ds P, F_turned ds P → ds.length = 1 := by (intro ds P h; first | exact h | (obtain ⟨_, rfl, _⟩ := h; rfl) | (obtain ⟨_, _, rfl, _⟩ := h; rfl) | (obtain ⟨_, _, _, rfl, _⟩ := h; rfl) | (obtain ⟨_, _, _, _, rfl, _⟩ := h; rfl) | (obtain ⟨_, _, _, _, _, rfl, _⟩ := h; rfl) | (obtain ⟨_, _, _, _, _, _, rfl, _⟩ := h; rfl) | (obtain ⟨_, _, _, _, _, _, _, rfl, _⟩ := h; rfl) | (obtain ⟨_, _, _, _, _, _, _, _, rfl, _⟩ := h; rfl) | (obtain ⟨_, _, _, _, _, _, _, _, _, rfl, _⟩ := h; rfl) | (obtain ⟨_, _, _, _, _, _, _, _, _, _, rfl, _⟩ := h; rfl) | (obtain ⟨_, _, _, _, _, _, _, _, _, _, _, rfl, _⟩ := h; rfl) | (obtain ⟨_, _, _, _, _, _, _, _, _, _, _, _, rfl, _⟩ := h; rfl) | (obtain ⟨_, _, _, _, _, _, _, _, _, _, _, _, _, rfl, _⟩ := h; rfl) | (obtain ⟨_, _, _, _, _, _, _, _, _, _, _, _, _, rfl, _⟩ := h; rfl) | (obtain ⟨_, _, _, _, _, _, _, _, _, _, _, _, _, _, rfl, _⟩ := h; rfl) | (obtain ⟨_, _, _, _, _, _, _, _, _, _, _, _, _, _, _, rfl, _⟩ := h; rfl) | (obtain ⟨_, _, _, _, _, _, _, _, _, _, _, _, _, _, _, _, rfl, _⟩ := h; rfl) | (obtain ⟨_, _, _, _, _, _, _, _, _, _, _, _, _, _, _, _, _, rfl, _⟩ := h; rfl) | (obtain ⟨_, _, _, _, _, _, _, _, _, _, _, _, _, _, _, _, _, _, rfl, _⟩ := h; rfl) | (obtain ⟨_, _, _, _, _, _, _, _, _, _, _, _, _, _, _, _, _, _, _, rfl, _⟩ := h; rfl) | (obtain ⟨_, _, _, _, _, _, _, _, _, _, _, _, _, _, _, _, _, _, _, _, rfl, _⟩ := h; rfl) | (obtain ⟨_, _, _, _, _, _, _, _, _, _, _, _, _, _, _, _, _, _, _, _, _, rfl, _⟩ := h; rfl) | (obtain ⟨rfl, _⟩ := h; rfl))
theorem ok_turned (T : Txt K mg) : FnOk Pg T.w0 K mg base CX0 1 T.D_turned.f T.D_turned.d ["rows"] ((spD K F_turned)) := by
  refine T.D_turned.F.ok (k := 0) sc_turned (spD_len (len_turned)) (fun cdv A outer s H vs Q E hr h => ?_)
  refine ⟨_, (pss_one (ps_ret (pe_lc (own := [("column", 1)]) rfl sc_turned.nd (PDY.pi_zipSK (K := K) rfl (by rfl) T.n_zip (pv 0)) (blkOk_by (N := ["rows", "column"]) (sc := defScope s_turned) (by decide +kernel)) (fun _ _ _ _ _ => (pg_name (i := 1) sc_turned.nd rfl (by first | exact Or.inl rfl | exact Or.inr rfl))) (fun _ _ _ _ _ => pts_nil) (fun _ _ _ _ _ => (pe_callTy (call_list_ofK (K := K) rfl) (by rfl) T.n_list (by decide +kernel) (pa_cons (pv 1) pa_nil)))))), ?_⟩
  try dsimp only [cxOf, Cx.blk, Cx.nox, Cx.wish]
  (refine body_of h fun W ds P eK f => ?_); subst eK
  obtain ⟨M, c, rfl, n1, n2, hc, c1, hP⟩ := f
  walk_at "pd"
  refine ev_lcM (colsX M c) .tup .lst (it_zipS ?_)
  refine ev_var rfl ?_
  refine ⟨M, c, rfl, n1, n2, hc, colD_X, by rw [colsX_len]; omega, fun i x hx => ⟨[1], by simp, gd_name ?_⟩, hP⟩
  walk_at "pd"
  refine rc_listT ?_
  rfl
def F_moved : FD := fun ds P => ∃ (A : Al) (G : Nat → Option GX) (k : Str) (l : List Int) (M : GX) (gs : List D), ds = [stD k l, .lst gs] ∧ AtX G gs ∧ MkX A G k l M ∧ k ≠ "plus" ∧ k ≠ "times" ∧ k ≠ "star" ∧ P (gridX M)
theorem len_moved : ∀ ds P, F_moved ds P → ds.length = 2 := by (intro ds P h; first | exact h | (obtain ⟨_, rfl, _⟩ := h; rfl) | (obtain ⟨_, _, rfl, _⟩ := h; rfl) | (obtain ⟨_, _, _, rfl, _⟩ := h; rfl) | (obtain ⟨_, _, _, _, rfl, _⟩ := h; rfl) | (obtain ⟨_, _, _, _, _, rfl, _⟩ := h; rfl) | (obtain ⟨_, _, _, _, _, _, rfl, _⟩ := h; rfl) | (obtain ⟨_, _, _, _, _, _, _, rfl, _⟩ := h; rfl) | (obtain ⟨_, _, _, _, _, _, _, _, rfl, _⟩ := h; rfl) | (obtain ⟨_, _, _, _, _, _, _, _, _, rfl, _⟩ := h; rfl) | (obtain ⟨_, _, _, _, _, _, _, _, _, _, rfl, _⟩ := h; rfl) | (obtain ⟨_, _, _, _, _, _, _, _, _, _, _, rfl, _⟩ := h; rfl) | (obtain ⟨_, _, _, _, _, _, _, _, _, _, _, _, rfl, _⟩ := h; rfl) | (obtain ⟨_, _, _, _, _, _, _, _, _, _, _, _, _, rfl, _⟩ := h; rfl) | (obtain ⟨_, _, _, _, _, _, _, _, _, _, _, _, _, rfl, _⟩ := h; rfl) | (obtain ⟨_, _, _, _, _, _, _, _, _, _, _, _, _, _, rfl, _⟩ := h; rfl) | (obtain ⟨_, _, _, _, _, _, _, _, _, _, _, _, _, _, _, rfl, _⟩ := h; rfl) | (obtain ⟨_, _, _, _, _, _, _, _, _, _, _, _, _, _, _, _, rfl, _⟩ := h; rfl) | (obtain ⟨_, _, _, _, _, _, _, _, _, _, _, _, _, _, _, _, _, rfl, _⟩ := h; rfl) | (obtain ⟨_, _, _, _, _, _, _, _, _, _, _, _, _, _, _, _, _, _, rfl, _⟩ := h; rfl) | (obtain ⟨_, _, _, _, _, _, _, _, _, _, _, _, _, _, _, _, _, _, _, rfl, _⟩ := h; rfl) | (obtain ⟨_, _, _, _, _, _, _, _, _, _, _, _, _, _, _, _, _, _, _, _, rfl, _⟩ := h; rfl) | (obtain ⟨_, _, _, _, _, _, _, _, _, _, _, _, _, _, _, _, _, _, _, _, _, rfl, _⟩ := h; rfl) | (obtain ⟨rfl, _⟩ := h; rfl))
theorem ok_moved (T : Txt K mg) : FnOk Pg T.w0 K mg base CX0 2 T.D_moved.f T.D_moved.d ["step", "grids"] ((spD K F_moved)) := by
  have G_turned := ok_turned (Pg := Pg) (base := base) T
  refine T.D_moved.F.ok (k := 1) sc_moved (spD_len (len_moved)) (fun cdv A outer s H vs Q E hr h => ?_)
  refine ⟨_, (pss_cons (ps_set (i := 2) sc_moved.nd rfl (by first | exact Or.inl rfl | exact Or.inr rfl) (pe_ix (ix_seqK (K := K) rfl) (pv 1) (pe_ix (ix_seqK (K := K) rfl) (pv 0) pe_int (fun _ _ => rfl)) (fun _ _ => rfl)))
    (pss_cons (ps_if (pt_cmpR (op_eqDK (K := K) rfl (hr_u hr)) (pe_ix (ix_seqK (K := K) rfl) (pv 0) pe_int (fun _ _ => rfl)) pe_str (nomark _))
      (pss_one (ps_ret (pe_call G_turned (hr.mono (by decide)) (by rfl) T.D_turned.g T.D_turned.F.kp T.D_turned.b .nil pass0 (pa_cons (pv 2) pa_nil))))
      pss_nil)
    (pss_cons (ps_if (pt_cmpR (op_eqDK (K := K) rfl (hr_u hr)) (pe_ix (ix_seqK (K := K) rfl) (pv 0) pe_int (fun _ _ => rfl)) pe_str (nomark _))
      (pss_one (ps_ret (pe_op (op_plusK (K := K) rfl) (pv 2) (pe_ix (ix_seqK (K := K) rfl) (pv 1) (pe_ix (ix_seqK (K := K) rfl) (pv 0) pe_int (fun _ _ => rfl)) (fun _ _ => rfl)))))
      pss_nil)
    (pss_cons (ps_if (pt_cmpR (op_eqDK (K := K) rfl (hr_u hr)) (pe_ix (ix_seqK (K := K) rfl) (pv 0) pe_int (fun _ _ => rfl)) pe_str (nomark _))
      (pss_one (ps_ret (pe_lc (own := [("left", 8), ("right", 9)]) rfl sc_moved.nd (pi_zipAK (K := K) rfl (by rfl) T.n_zip (pa_cons (pv 2) (pa_cons (pe_ix (ix_seqK (K := K) rfl) (pv 1) (pe_ix (ix_seqK (K := K) rfl) (pv 0) pe_int (fun _ _ => rfl)) (fun _ _ => rfl)) pa_nil))) (blkOk_by (N := ["step", "grids", "one", "first_row", "first_column", "high", "wide", "row", "left", "right"]) (sc := defScope s_moved) (by decide +kernel)) (fun _ _ _ _ _ => (by exact (pg_tupK (K := K) (n := 2) rfl rfl (pgs_cons (pg_name (i := 8) sc_moved.nd rfl (by first | exact Or.inl rfl | exact Or.inr rfl)) (pgs_cons (pg_name (i := 9) sc_moved.nd rfl (by first | exact Or.inl rfl | exact Or.inr rfl)) pgs_nil))))) (fun _ _ _ _ _ => pts_nil) (fun _ _ _ _ _ => (pe_op (op_plusK (K := K) rfl) (pv 8) (pv 9))))))
      pss_nil)
    (pss_cons (ps_asg (pe_slice (sl_tupAK (K := K) rfl) (pv 0) (po_some pe_int) po_none) (by exact (pg_tupK (K := K) (n := 4) rfl rfl (pgs_cons (pg_name (i := 3) sc_moved.nd rfl (by first | exact Or.inl rfl | exact Or.inr rfl)) (pgs_cons (pg_name (i := 4) sc_moved.nd rfl (by first | exact Or.inl rfl | exact Or.inr rfl)) (pgs_cons (pg_name (i := 5) sc_moved.nd rfl (by first | exact Or.inl rfl | exact Or.inr rfl)) (pgs_cons (pg_name (i := 6) sc_moved.nd rfl (by first | exact Or.inl rfl | exact Or.inr rfl)) pgs_nil)))))))
    (pss_one (ps_ret (pe_lc (own := [("row", 7)]) rfl sc_moved.nd (pi_seqK (K := K) rfl (pe_slice (sl_listK (K := K) rfl) (pv 2) (po_some (pv 3)) (po_some (pe_op (op_plusK (K := K) rfl) (pv 3) (pv 5))))) (blkOk_by (N := ["step", "grids", "one", "first_row", "first_column", "high", "wide", "row", "left", "right"]) (sc := defScope s_moved) (by decide +kernel)) (fun _ _ _ _ _ => (pg_name (i := 7) sc_moved.nd rfl (by first | exact Or.inl rfl | exact Or.inr rfl))) (fun _ _ _ _ _ => pts_nil) (fun _ _ _ _ _ => (pe_slice (sl_listK (K := K) rfl) (pv 7) (po_some (pv 4)) (po_some (pe_op (op_plusK (K := K) rfl) (pv 4) (pv 6))))))))))))), ?_⟩
  try dsimp only [cxOf, Cx.blk, Cx.nox, Cx.wish]
  (refine body_of h fun W ds P eK f => ?_); subst eK
  obtain ⟨A, G, k, l, M, gs, rfl, hG, hM, k1, k2, k3, hP⟩ := f
  cases hM with
  | plus => exact absurd rfl k1
  | times => exact absurd rfl k2
  | star => exact absurd rfl k3
  | @turned a r c Z g d r1 r12 c12 =>
    unfold stD
    walk_at "pd"
    refine rd_ixL (j := a) (by omega) (hG _ _ g) ?_
    walk_at "pd"
    refine ⟨_, _, rfl, fun z => by rw [z] at d; have := d.1; simp at this; omega, by rw [d.1]; exact r12, d.2, by omega, hP⟩
  | @above a b r m c Z Y g g2 d d2 r12 m12 c12 =>
    unfold stD
    walk_at "pd"
    refine rd_ixL (j := a) (by omega) (hG _ _ g) ?_
    walk_at "pd"
    refine rd_ixT (j := 2) rfl rfl ?_
    refine rd_ixL (j := b) (by omega) (hG _ _ g2) ?_
    unfold gridX at hP ⊢
    rw [List.map_append] at hP
    exact rd_plusL (by rw [List.length_map, List.length_map, d.1, d2.1]; omega) hP
  | @beside a b r m c Z Y g g2 d d2 r12 m12 c12 =>
    unfold stD
    walk_at "pd"
    refine rd_ixL (j := a) (by omega) (hG _ _ g) ?_
    walk_at "pd"
    refine ev_lcM (Z.zip Y) (fun p => .tup [.lst p.1, .lst p.2]) (fun p => .lst (p.1 ++ p.2)) (it_zipL ?_)
    walk_at "pd"
    refine rd_ixT (j := 2) rfl rfl ?_
    refine rd_ixL (j := b) (by omega) (hG _ _ g2) ?_
    walk_at "pd"
    refine ⟨_, _, rfl, zipD_map _ _ _ _, by rw [List.length_zip, d.1, d2.1]; omega, fun i x hx => ⟨_, ?_, gd_tup2 (gd_name (gd_name ?_))⟩, ?_⟩
    · simp
    · obtain ⟨m1, m2⟩ := List.of_mem_zip (List.mem_of_getElem? hx)
      walk_at "pd"
      exact rd_plusL (by rw [d.2 _ m1, d2.2 _ m2]; omega) rfl
    · rw [show P (.lst ((Z.zip Y).map fun p => D.lst (p.1 ++ p.2))) = P (gridX (List.zipWith (· ++ ·) Z Y)) by unfold gridX; rw [List.map_zipWith, List.zip, List.map_zipWith]]
      exact hP
  | @piece a i j h w r c Z g d ir jc h1 w1 r12 c12 =>
    unfold stD
    walk_at "pd"
    refine rd_ixL (j := a) (by omega) (hG _ _ g) ?_
    walk_at "pd"
    refine sd_asgG (js := [3, 4, 5, 6]) ?_
    walk_at "pd"
    refine ⟨_, rfl, ?_⟩
    walk_at "pd"
    refine ⟨_, rfl, ?_⟩
    walk_at "pd"
    rw [List.map_cons, cut2]
    refine gd_tup4 (gd_name (gd_name (gd_name (gd_name ?_))))
    walk_at "pd"
    refine ev_lcM ((Z.drop i).take h) .lst (fun row => .lst ((row.drop j).take w)) (it_seqL (ev_slL (ev_var rfl ⟨_, rfl, ?_⟩)))
    walk_at "pd"
    refine ⟨_, rfl, ?_⟩
    walk_at "pd"
    refine ⟨_, rfl, ?_⟩
    refine ⟨_, rfl, by rw [cutX, List.map_take, List.map_drop], by rw [List.length_take, List.length_drop, d.1]; omega, fun q x hx => ⟨_, by simp, gd_name ?_⟩, ?_⟩
    · refine ev_slL (ev_var rfl ⟨_, rfl, ?_⟩)
      walk_at "pd"
      refine ⟨_, rfl, ?_⟩
      walk_at "pd"
      refine ⟨_, rfl, ?_⟩
      show D.lst _ = D.lst _
      rw [cutX x j w]
    · rw [show P (.lst (((Z.drop i).take h).map fun row => D.lst ((row.drop j).take w))) = P (gridX (((Z.drop i).take h).map fun row => (row.drop j).take w)) by unfold gridX; rw [List.map_map]; rfl]
      exact hP
def F_lowest : FD := fun ds P => ∃ a b : Int, ds = [.int a, .int b] ∧ 0 < b ∧ b.natAbs < 2 ^ 8000 ∧ P (fr (lowF a b))
theorem len_lowest : ∀ ds P, F_lowest ds P → ds.length = 2 := by (intro ds P h; first | exact h | (obtain ⟨_, rfl, _⟩ := h; rfl) | (obtain ⟨_, _, rfl, _⟩ := h; rfl) | (obtain ⟨_, _, _, rfl, _⟩ := h; rfl) | (obtain ⟨_, _, _, _, rfl, _⟩ := h; rfl) | (obtain ⟨_, _, _, _, _, rfl, _⟩ := h; rfl) | (obtain ⟨_, _, _, _, _, _, rfl, _⟩ := h; rfl) | (obtain ⟨_, _, _, _, _, _, _, rfl, _⟩ := h; rfl) | (obtain ⟨_, _, _, _, _, _, _, _, rfl, _⟩ := h; rfl) | (obtain ⟨_, _, _, _, _, _, _, _, _, rfl, _⟩ := h; rfl) | (obtain ⟨_, _, _, _, _, _, _, _, _, _, rfl, _⟩ := h; rfl) | (obtain ⟨_, _, _, _, _, _, _, _, _, _, _, rfl, _⟩ := h; rfl) | (obtain ⟨_, _, _, _, _, _, _, _, _, _, _, _, rfl, _⟩ := h; rfl) | (obtain ⟨_, _, _, _, _, _, _, _, _, _, _, _, _, rfl, _⟩ := h; rfl) | (obtain ⟨_, _, _, _, _, _, _, _, _, _, _, _, _, rfl, _⟩ := h; rfl) | (obtain ⟨_, _, _, _, _, _, _, _, _, _, _, _, _, _, rfl, _⟩ := h; rfl) | (obtain ⟨_, _, _, _, _, _, _, _, _, _, _, _, _, _, _, rfl, _⟩ := h; rfl) | (obtain ⟨_, _, _, _, _, _, _, _, _, _, _, _, _, _, _, _, rfl, _⟩ := h; rfl) | (obtain ⟨_, _, _, _, _, _, _, _, _, _, _, _, _, _, _, _, _, rfl, _⟩ := h; rfl) | (obtain ⟨_, _, _, _, _, _, _, _, _, _, _, _, _, _, _, _, _, _, rfl, _⟩ := h; rfl) | (obtain ⟨_, _, _, _, _, _, _, _, _, _, _, _, _, _, _, _, _, _, _, rfl, _⟩ := h; rfl) | (obtain ⟨_, _, _, _, _, _, _, _, _, _, _, _, _, _, _, _, _, _, _, _, rfl, _⟩ := h; rfl) | (obtain ⟨_, _, _, _, _, _, _, _, _, _, _, _, _, _, _, _, _, _, _, _, _, rfl, _⟩ := h; rfl) | (obtain ⟨rfl, _⟩ := h; rfl))
theorem ok_lowest (T : Txt K mg) : FnOk Pg T.w0 K mg base CX0 1 T.D_lowest.f T.D_lowest.d ["top", "bottom"] ((spD K F_lowest)) := by
  refine T.D_lowest.F.ok (k := 0) sc_lowest (spD_len (len_lowest)) (fun cdv A outer s H vs Q E hr h => ?_)
  refine ⟨_, (pss_cons (ps_set (i := 2) sc_lowest.nd rfl (by first | exact Or.inl rfl | exact Or.inr rfl) (pe_callBfun cr_gcd (by rfl) T.v_gcd (pa_cons (pv 0) (pa_cons (pv 1) pa_nil))))
    (pss_one (ps_ret (pe_tup (pa_cons (pe_op op_fdivW (pv 0) (pv 2)) (pa_cons (pe_op op_fdivW (pv 1) (pv 2)) pa_nil)))))), ?_⟩
  try dsimp only [cxOf, Cx.blk, Cx.nox, Cx.wish]
  (refine body_of h fun W ds P eK f => ?_); subst eK
  obtain ⟨a, b, rfl, hb, hs, hP⟩ := f
  walk_at "pd"
  · exact div_gcd hb hs
  · exact div_gcd hb hs
  · exact hP
def F_sum_of_products : FD := fun ds P => ∃ (B : Int) (ps : List (Fr × Fr)), ds = [.lst (ps.map prD)] ∧ Small20 B ps ∧ P (fr (sopF ps))
theorem len_sum_of_products : ∀ ds P, F_sum_of_products ds P → ds.length = 1 := by (intro ds P h; first | exact h | (obtain ⟨_, rfl, _⟩ := h; rfl) | (obtain ⟨_, _, rfl, _⟩ := h; rfl) | (obtain ⟨_, _, _, rfl, _⟩ := h; rfl) | (obtain ⟨_, _, _, _, rfl, _⟩ := h; rfl) | (obtain ⟨_, _, _, _, _, rfl, _⟩ := h; rfl) | (obtain ⟨_, _, _, _, _, _, rfl, _⟩ := h; rfl) | (obtain ⟨_, _, _, _, _, _, _, rfl, _⟩ := h; rfl) | (obtain ⟨_, _, _, _, _, _, _, _, rfl, _⟩ := h; rfl) | (obtain ⟨_, _, _, _, _, _, _, _, _, rfl, _⟩ := h; rfl) | (obtain ⟨_, _, _, _, _, _, _, _, _, _, rfl, _⟩ := h; rfl) | (obtain ⟨_, _, _, _, _, _, _, _, _, _, _, rfl, _⟩ := h; rfl) | (obtain ⟨_, _, _, _, _, _, _, _, _, _, _, _, rfl, _⟩ := h; rfl) | (obtain ⟨_, _, _, _, _, _, _, _, _, _, _, _, _, rfl, _⟩ := h; rfl) | (obtain ⟨_, _, _, _, _, _, _, _, _, _, _, _, _, rfl, _⟩ := h; rfl) | (obtain ⟨_, _, _, _, _, _, _, _, _, _, _, _, _, _, rfl, _⟩ := h; rfl) | (obtain ⟨_, _, _, _, _, _, _, _, _, _, _, _, _, _, _, rfl, _⟩ := h; rfl) | (obtain ⟨_, _, _, _, _, _, _, _, _, _, _, _, _, _, _, _, rfl, _⟩ := h; rfl) | (obtain ⟨_, _, _, _, _, _, _, _, _, _, _, _, _, _, _, _, _, rfl, _⟩ := h; rfl) | (obtain ⟨_, _, _, _, _, _, _, _, _, _, _, _, _, _, _, _, _, _, rfl, _⟩ := h; rfl) | (obtain ⟨_, _, _, _, _, _, _, _, _, _, _, _, _, _, _, _, _, _, _, rfl, _⟩ := h; rfl) | (obtain ⟨_, _, _, _, _, _, _, _, _, _, _, _, _, _, _, _, _, _, _, _, rfl, _⟩ := h; rfl) | (obtain ⟨_, _, _, _, _, _, _, _, _, _, _, _, _, _, _, _, _, _, _, _, _, rfl, _⟩ := h; rfl) | (obtain ⟨rfl, _⟩ := h; rfl))
theorem ok_sum_of_products (T : Txt K mg) : FnOk Pg T.w0 K mg base CX0 2 T.D_sum_of_products.f T.D_sum_of_products.d ["pairs"] ((spD K F_sum_of_products)) := by
  have G_lowest := ok_lowest (Pg := Pg) (base := base) T
  refine T.D_sum_of_products.F.ok (k := 1) sc_sum_of_products (spD_len (len_sum_of_products)) (fun cdv A outer s H vs Q E hr h => ?_)
  refine ⟨_, (pss_cons (ps_set (i := 1) sc_sum_of_products.nd rfl (by first | exact Or.inl rfl | exact Or.inr rfl) pe_int)
    (pss_cons (ps_set (i := 2) sc_sum_of_products.nd rfl (by first | exact Or.inl rfl | exact Or.inr rfl) pe_int)
    (pss_cons (ps_for PassesOwn.never rfl (pi_seqK (K := K) rfl (pv 0)) (by exact (pg_tupK (K := K) (n := 2) rfl rfl (pgs_cons (pg_name (i := 3) sc_sum_of_products.nd rfl (by first | exact Or.inl rfl | exact Or.inr rfl)) (pgs_cons (pg_name (i := 4) sc_sum_of_products.nd rfl (by first | exact Or.inl rfl | exact Or.inr rfl)) pgs_nil))))
      (pss_cons (ps_set (i := 5) sc_sum_of_products.nd rfl (by first | exact Or.inl rfl | exact Or.inr rfl) (pe_op op_mulW (pe_ix (ix_seqK (K := K) rfl) (pv 3) pe_int (fun _ _ => rfl)) (pe_ix (ix_seqK (K := K) rfl) (pv 4) pe_int (fun _ _ => rfl))))
    (pss_cons (ps_set (i := 6) sc_sum_of_products.nd rfl (by first | exact Or.inl rfl | exact Or.inr rfl) (pe_callBfun cr_gcd (by rfl) T.v_gcd (pa_cons (pv 2) (pa_cons (pv 5) pa_nil))))
    (pss_cons (ps_set (i := 1) sc_sum_of_products.nd rfl (by first | exact Or.inl rfl | exact Or.inr rfl) (pe_op (op_plusK (K := K) rfl) (pe_op op_mulW (pv 1) (pe_op op_fdivW (pv 5) (pv 6))) (pe_op op_mulW (pe_op op_mulW (pe_ix (ix_seqK (K := K) rfl) (pv 3) pe_int (fun _ _ => rfl)) (pe_ix (ix_seqK (K := K) rfl) (pv 4) pe_int (fun _ _ => rfl))) (pe_op op_fdivW (pv 2) (pv 6)))))
    (pss_one (ps_set (i := 2) sc_sum_of_products.nd rfl (by first | exact Or.inl rfl | exact Or.inr rfl) (pe_op op_mulW (pv 2) (pe_op op_fdivW (pv 5) (pv 6)))))))))
    (pss_one (ps_ret (pe_call G_lowest (hr.mono (by decide)) (by rfl) T.D_lowest.g T.D_lowest.F.kp T.D_lowest.b .nil pass0 (pa_cons (pv 1) (pa_cons (pv 2) pa_nil)))))))), ?_⟩
  try dsimp only [cxOf, Cx.blk, Cx.nox, Cx.wish]
  (refine body_of h fun W ds P eK f => ?_); subst eK
  obtain ⟨B, ps, rfl, hS, hP⟩ := f
  have few := hS.few
  walk_at "pd"
  refine sd_for (it_seqL (ev_var rfl ⟨_, rfl, ?_⟩))
  refine ⟨fun i δ => ∃ (t b : Int) (x3 x4 x5 x6 : Option D), 0 < b ∧ b ∣ B ∧ t.natAbs < 2 ^ (8001 + 4001 * i) ∧ Rat.divInt t b = sopQ (ps.take i) ∧ δ = [some (.lst (ps.map prD)), some (.int t), some (.int b), x3, x4, x5, x6], ⟨0, 1, none, none, none, none, by decide, Int.one_dvd _, by decide, by rw [List.take_zero]; decide, rfl⟩, fun i d δ hd hI => ?_, fun δ hI => ?_⟩
  · obtain ⟨t, b, x3, x4, x5, x6, b0, bB, ht, hq, rfl⟩ := hI
    rw [List.getElem?_map] at hd
    obtain ⟨p, hp, rfl⟩ : ∃ p, ps[i]? = some p ∧ d = prD p := by
      cases e : ps[i]? with
      | none => rw [e] at hd; cases hd
      | some p => rw [e] at hd; cases hd; exact ⟨p, rfl, rfl⟩
    obtain ⟨f1, f2, s1, s2, dv⟩ := hS.each p (List.mem_of_getElem? hp)
    have u0 : 0 < p.1.2 := by have := f1.1; omega
    have w0 : 0 < p.2.2 := by have := f2.1; omega
    have bS : b.natAbs < 2 ^ 4000 := Nat.lt_of_le_of_lt (Nat.le_of_dvd (by have := hS.pos; omega) (Int.natAbs_dvd_natAbs.mpr bB)) hS.sm
    have wS : (p.1.2 * p.2.2).natAbs < 2 ^ 4000 := mul_lt s1.2 s2.2
    have aS : (p.1.1 * p.2.1).natAbs < 2 ^ 4000 := mul_lt s1.1 s2.1
    obtain ⟨k1, k2, k3⟩ := sop_step (t := t) (a := p.1.1) (c := p.2.1) b0 u0 w0
    have gp : 0 < Nat.gcd b.natAbs (p.1.2 * p.2.2).natAbs := Nat.gcd_pos_of_pos_left _ (by omega)
    have gb : Nat.gcd b.natAbs (p.1.2 * p.2.2).natAbs < 2 ^ 4000 := Nat.lt_of_le_of_lt (Nat.gcd_le_left _ (by omega)) bS
    have dW : ∀ x : Int, CDivW x ((Nat.gcd b.natAbs (p.1.2 * p.2.2).natAbs : Nat) : Int) := fun x => div_ok (by omega) (lt_pow (by simpa using gb) (by decide : 4000 ≤ 8000))
    have qS : ∀ {x : Int} {n : Nat}, x.natAbs < 2 ^ n → (x / ((Nat.gcd b.natAbs (p.1.2 * p.2.2).natAbs : Nat) : Int)).natAbs < 2 ^ n := fun {x n} h => Nat.lt_of_le_of_lt (Int.natAbs_ediv_le_natAbs _ _) h
    have il := (List.getElem?_eq_some_iff.mp hp).1
    have ti : t.natAbs < 2 ^ 60000 := lt_pow ht (by omega)
    unfold prD
    refine ⟨_, gd_tup2 (gd_name (gd_name ?_))⟩
    walk_at "pd"
    · exact mul_okN s1.2 s2.2 (by decide)
    · exact dW _
    · exact mul_okN ti (qS wS) (by decide)
    · exact mul_okN s1.1 s2.1 (by decide)
    · exact dW _
    · exact mul_okN aS (qS bS) (by decide)
    · exact dW _
    · exact mul_okN bS (qS wS) (by decide)
    · refine ⟨_, _, _, _, _, _, k1, k2 B bB dv, ?_, ?_, rfl⟩
      · have h1 := mul_lt ht (qS wS)
        have h2 := mul_lt aS (qS bS)
        have h3 : (t * (p.1.2 * p.2.2 / ((Nat.gcd b.natAbs (p.1.2 * p.2.2).natAbs : Nat) : Int))).natAbs < 2 ^ (8001 + 4001 * i + 4000) := h1
        have h4 : (p.1.1 * p.2.1 * (b / ((Nat.gcd b.natAbs (p.1.2 * p.2.2).natAbs : Nat) : Int))).natAbs < 2 ^ (8001 + 4001 * i + 4000) := lt_pow h2 (by omega)
        have := add_lt h3 h4
        rw [show 8001 + 4001 * (i + 1) = 8001 + 4001 * i + 4000 + 1 from by omega]
        exact this
      · rw [k3, hq, ← take_snoc hp]
        unfold sopQ
        rw [List.foldl_append]
        rfl
  · obtain ⟨t, b, x3, x4, x5, x6, b0, bB, ht, hq, rfl⟩ := hI
    rw [List.length_map, List.take_length] at hq
    walk_at "pd"
    have hF := sop_ok (ps := ps) fun p hp => ⟨(hS.each p hp).1, (hS.each p hp).2.1⟩
    refine ⟨t, b, rfl, b0, lt_pow (Nat.lt_of_le_of_lt (Nat.le_of_dvd (by have := hS.pos; omega) (Int.natAbs_dvd_natAbs.mpr bB)) hS.sm) (by decide : 4000 ≤ 8000), ?_⟩
    have e : lowF t b = sopF ps := toQ_inj (lowF_isF b0) hF.1 (by rw [toQ_low b0, hq, hF.2])
    rw [e]
    exact hP
def nzP (p : Fr × Fr) : Bool := !decide (p.1 = (0, 1)) && !decide (p.2 = (0, 1))
theorem addF_zero {s p : Fr} (hs : IsF s) (hp : IsF p) (h : toQ p = 0) : addF s p = s := by
  refine toQ_inj (addF_isF hs hp) hs ?_
  rw [toQ_add (by have := hs.1; omega) (by have := hp.1; omega), h, Rat.add_zero]
theorem zero_Q : toQ (0, 1) = 0 := by decide
theorem sop_filter : ∀ {ps : List (Fr × Fr)} {s : Fr}, (∀ p ∈ ps, IsF p.1 ∧ IsF p.2) → IsF s → (ps.filter nzP).foldl (fun s p => addF s (mulF p.1 p.2)) s = ps.foldl (fun s p => addF s (mulF p.1 p.2)) s
  | [], s, _, _ => rfl
  | p :: ps, s, h, hs => by
    obtain ⟨h1, h2⟩ := h p List.mem_cons_self
    have m := isF_mul h1 h2
    have ih := fun {s : Fr} => sop_filter (ps := ps) (s := s) fun q hq => h q (List.mem_cons_of_mem _ hq)
    rw [List.filter_cons]
    by_cases z : nzP p = true
    · rw [if_pos z, List.foldl_cons, List.foldl_cons, ih (addF_isF hs m)]
    · rw [if_neg z, List.foldl_cons, ih hs]
      have e : toQ (mulF p.1 p.2) = 0 := by
        rw [toQ_mul (by have := h1.1; omega) (by have := h2.1; omega)]
        unfold nzP at z
        simp only [Bool.and_eq_true, Bool.not_eq_true', decide_eq_false_iff_not, not_and, Classical.not_not] at z
        by_cases y : p.1 = (0, 1)
        · rw [y, zero_Q, Rat.zero_mul]
        · rw [z y, zero_Q, Rat.mul_zero]
      rw [addF_zero hs m e]
def F_Outcomes_inner {K : PySem.W.Frag} {mg : Str → Option Value} (T : Txt K mg) : FD := fun ds P => ∃ (v : V_Outcomes) (r c : List D), ds = [self_Outcomes T.k_Outcomes.C v, .lst r, .lst c] ∧ r.length = c.length ∧ r.length ≤ 12 ∧ (al_Outcomes v).okI r c ∧ P ((al_Outcomes v).inn r c)
theorem len_Outcomes_inner {K : PySem.W.Frag} {mg : Str → Option Value} (T : Txt K mg) : ∀ ds P, (F_Outcomes_inner T) ds P → ds.length = 3 := by (intro ds P h; first | exact h | (obtain ⟨_, rfl, _⟩ := h; rfl) | (obtain ⟨_, _, rfl, _⟩ := h; rfl) | (obtain ⟨_, _, _, rfl, _⟩ := h; rfl) | (obtain ⟨_, _, _, _, rfl, _⟩ := h; rfl) | (obtain ⟨_, _, _, _, _, rfl, _⟩ := h; rfl) | (obtain ⟨_, _, _, _, _, _, rfl, _⟩ := h; rfl) | (obtain ⟨_, _, _, _, _, _, _, rfl, _⟩ := h; rfl) | (obtain ⟨_, _, _, _, _, _, _, _, rfl, _⟩ := h; rfl) | (obtain ⟨_, _, _, _, _, _, _, _, _, rfl, _⟩ := h; rfl) | (obtain ⟨_, _, _, _, _, _, _, _, _, _, rfl, _⟩ := h; rfl) | (obtain ⟨_, _, _, _, _, _, _, _, _, _, _, rfl, _⟩ := h; rfl) | (obtain ⟨_, _, _, _, _, _, _, _, _, _, _, _, rfl, _⟩ := h; rfl) | (obtain ⟨_, _, _, _, _, _, _, _, _, _, _, _, _, rfl, _⟩ := h; rfl) | (obtain ⟨_, _, _, _, _, _, _, _, _, _, _, _, _, rfl, _⟩ := h; rfl) | (obtain ⟨_, _, _, _, _, _, _, _, _, _, _, _, _, _, rfl, _⟩ := h; rfl) | (obtain ⟨_, _, _, _, _, _, _, _, _, _, _, _, _, _, _, rfl, _⟩ := h; rfl) | (obtain ⟨_, _, _, _, _, _, _, _, _, _, _, _, _, _, _, _, rfl, _⟩ := h; rfl) | (obtain ⟨_, _, _, _, _, _, _, _, _, _, _, _, _, _, _, _, _, rfl, _⟩ := h; rfl) | (obtain ⟨_, _, _, _, _, _, _, _, _, _, _, _, _, _, _, _, _, _, rfl, _⟩ := h; rfl) | (obtain ⟨_, _, _, _, _, _, _, _, _, _, _, _, _, _, _, _, _, _, _, rfl, _⟩ := h; rfl) | (obtain ⟨_, _, _, _, _, _, _, _, _, _, _, _, _, _, _, _, _, _, _, _, rfl, _⟩ := h; rfl) | (obtain ⟨_, _, _, _, _, _, _, _, _, _, _, _, _, _, _, _, _, _, _, _, _, rfl, _⟩ := h; rfl) | (obtain ⟨rfl, _⟩ := h; rfl))
theorem ok_Outcomes_inner (T : Txt K mg) : FnOk Pg T.w0 K mg base CX0 3 T.D_Outcomes_inner.f T.D_Outcomes_inner.d ["self", "row", "column"] ((spD K (F_Outcomes_inner T))) := by
  have G_sum_of_products := ok_sum_of_products (Pg := Pg) (base := base) T
  refine T.D_Outcomes_inner.F.ok (k := 2) sc_Outcomes_inner (spD_len (len_Outcomes_inner T)) (fun cdv A outer s H vs Q E hr h => ?_)
  refine ⟨_, (pss_cons (ps_setLc (i := 3) (own := [("pair", 4)]) rfl sc_Outcomes_inner.nd rfl rfl (sw_true rfl rfl rfl (by decide +kernel)) (PDY.pi_zipLK (K := K) rfl (by rfl) T.n_zip (pa_cons (pv 1) (pa_cons (pv 2) pa_nil))) (blkOk_by (N := ["self", "row", "column", "pairs", "pair"]) (sc := defScope s_Outcomes_inner) (by decide +kernel)) (fun _ _ _ _ _ => (pg_name (i := 4) sc_Outcomes_inner.nd rfl (by first | exact Or.inl rfl | exact Or.inr rfl))) (fun _ _ _ _ _ => (pts_one (PW.pt (pw_and (pt_cmpR (op_neDK (K := K) rfl (hr_u hr)) (pe_ix (ix_seqK (K := K) rfl) (pv 4) pe_int (fun _ _ => rfl)) (pe_fldK (K := K) rfl (pv 0) rfl) (nomark _)) (pw_and1 (pt_cmpR (op_neDK (K := K) rfl (hr_u hr)) (pe_ix (ix_seqK (K := K) rfl) (pv 4) pe_int (fun _ _ => rfl)) (pe_fldK (K := K) rfl (pv 0) rfl) (nomark _))))))) (fun _ _ _ _ _ => (pv 4)))
    (pss_cons (ps_if (pt_val (pe_callB (cr_any rfl) (by rfl) T.n_any (by decide +kernel) (pa_cons (pe_lc (own := [("pair", 4)]) rfl sc_Outcomes_inner.nd (pi_seqK (K := K) rfl (pv 3)) (blkOk_by (N := ["self", "row", "column", "pairs", "pair"]) (sc := defScope s_Outcomes_inner) (by decide +kernel)) (fun _ _ _ _ _ => (pg_name (i := 4) sc_Outcomes_inner.nd rfl (by first | exact Or.inl rfl | exact Or.inr rfl))) (fun _ _ _ _ _ => pts_nil) (fun _ _ _ _ _ => (pe_cmpR (op_inTK (K := K) rfl (hr_65 hr)) (pe_glob (v := .str "endless") rfl T.c_ENDLESS ⟨_, rfl⟩) (pv 4) (by rfl)))) pa_nil)))
      (pss_one (ps_ret (pe_glob (v := .str "endless") rfl T.c_ENDLESS ⟨_, rfl⟩)))
      pss_nil)
    (pss_one (ps_ret (pe_call G_sum_of_products (hr.mono (by decide)) (by rfl) T.D_sum_of_products.g T.D_sum_of_products.F.kp T.D_sum_of_products.b .nil pass0 (pa_cons (pv 3) pa_nil)))))), ?_⟩
  try dsimp only [cxOf, Cx.blk, Cx.nox, Cx.wish]
  (refine body_of h fun W ds P eK f => ?_); subst eK
  obtain ⟨v, r, c, rfl, hl, h12, ⟨ps, rfl, rfl, B, hS⟩, hP⟩ := f
  rw [List.length_map] at h12
  have hq : pairsV (ps.map fun p => fr p.1) (ps.map fun p => fr p.2) = ps := pairs_of ps
  walk_at "pd"
  refine ev_lcFl ps nzP prD prD (it_zipLN ?_)
  walk_at "pd"
  refine ⟨_, _, rfl, by simp, zip_prD ps, by omega, fun i p hp => ⟨_, ?_, gd_name ?_⟩, ?_⟩
  · simp
  · unfold prD
    walk_at "pd"
    refine ev_fld ?_; refine ev_var rfl ?_; refine ⟨_, _, _, _, rfl, T.k_Outcomes.o.cl, T.na_Outcomes_nought, rfl, ?_⟩
    refine rd_neD (fr_fine _) (fr_fine _) ?_
    rw [fr_eqv]
    refine exb2 (fun z1 => ?_) fun z1 => ?_
    · walk_at "pd"
      refine ev_fld ?_; refine ev_var rfl ?_; refine ⟨_, _, _, _, rfl, T.k_Outcomes.o.cl, T.na_Outcomes_nought, rfl, ?_⟩
      refine rd_neD (fr_fine _) (fr_fine _) ?_
      rw [fr_eqv]
      refine exb (c := !decide (p.2 = (0, 1))) ⟨?_, fun _ => by walk_at "pd"; rfl⟩
      unfold nzP
      rw [z1, Bool.true_and]
    · refine ⟨?_, fun z => by cases z⟩
      unfold nzP
      rw [z1, Bool.false_and]
  · walk_at "pd"
    refine ev_lcM (ps.filter nzP) prD (fun _ => .bl false) (it_seqL ?_)
    walk_at "pd"
    refine ⟨_, rfl, rfl, ?_, fun i p hp => ⟨_, ?_, gd_name ?_⟩, ?_⟩
    · exact Nat.le_trans (List.length_filter_le _ _) (by omega)
    · simp
    · walk_at "pd"
      unfold prD
      refine rd_inT end_fine (prD_fine p) ?_
      show D.bl (D.eqv (fr p.1) _ || (D.eqv (fr p.2) _ || false)) = _
      rw [fr_end, fr_end]
      rfl
    · walk_at "pd"
      have e : (ps.filter nzP).map (fun _ => D.bl false) = ((ps.filter nzP).map fun _ => false).map D.bl := by rw [List.map_map]; rfl
      rw [e]
      refine rc_any ?_
      have e2 : ((ps.filter nzP).map fun _ => false).any id = false := by
        rw [List.any_map]
        exact List.any_eq_false.mpr fun _ _ => by simp
      rw [e2]
      walk_at "pd"
      refine ⟨B, ps.filter nzP, rfl, ⟨hS.pos, hS.sm, Nat.le_trans (List.length_filter_le _ _) hS.few, fun p hp => hS.each p (List.mem_filter.mp hp).1⟩, ?_⟩
      have e3 : sopF (ps.filter nzP) = sopF ps := sop_filter (fun p hp => ⟨(hS.each p hp).1, (hS.each p hp).2.1⟩) ⟨by decide, by decide⟩
      rw [e3]
      rw [show (al_Outcomes v).inn (ps.map fun p => fr p.1) (ps.map fun p => fr p.2) = fr (sopF (pairsV (ps.map fun p => fr p.1) (ps.map fun p => fr p.2))) from rfl, hq] at hP
      exact hP
def F_Cells_products {K : PySem.W.Frag} {mg : Str → Option Value} (T : Txt K mg) : FD := fun ds P => ∃ (v : V_Outcomes) (X Y : GX) (r m c : Nat), ds = [self_Outcomes T.k_Outcomes.C v, gridX X, gridX Y] ∧ DimX X r m ∧ DimX Y m c ∧ r ≤ 12 ∧ 1 ≤ m ∧ m ≤ 12 ∧ c ≤ 12 ∧ (∀ row ∈ X, ∀ col ∈ colsX Y c, (al_Outcomes v).okI row col) ∧ P (gridX ((al_Outcomes v).prod X Y c))
theorem len_Cells_products {K : PySem.W.Frag} {mg : Str → Option Value} (T : Txt K mg) : ∀ ds P, (F_Cells_products T) ds P → ds.length = 3 := by (intro ds P h; first | exact h | (obtain ⟨_, rfl, _⟩ := h; rfl) | (obtain ⟨_, _, rfl, _⟩ := h; rfl) | (obtain ⟨_, _, _, rfl, _⟩ := h; rfl) | (obtain ⟨_, _, _, _, rfl, _⟩ := h; rfl) | (obtain ⟨_, _, _, _, _, rfl, _⟩ := h; rfl) | (obtain ⟨_, _, _, _, _, _, rfl, _⟩ := h; rfl) | (obtain ⟨_, _, _, _, _, _, _, rfl, _⟩ := h; rfl) | (obtain ⟨_, _, _, _, _, _, _, _, rfl, _⟩ := h; rfl) | (obtain ⟨_, _, _, _, _, _, _, _, _, rfl, _⟩ := h; rfl) | (obtain ⟨_, _, _, _, _, _, _, _, _, _, rfl, _⟩ := h; rfl) | (obtain ⟨_, _, _, _, _, _, _, _, _, _, _, rfl, _⟩ := h; rfl) | (obtain ⟨_, _, _, _, _, _, _, _, _, _, _, _, rfl, _⟩ := h; rfl) | (obtain ⟨_, _, _, _, _, _, _, _, _, _, _, _, _, rfl, _⟩ := h; rfl) | (obtain ⟨_, _, _, _, _, _, _, _, _, _, _, _, _, rfl, _⟩ := h; rfl) | (obtain ⟨_, _, _, _, _, _, _, _, _, _, _, _, _, _, rfl, _⟩ := h; rfl) | (obtain ⟨_, _, _, _, _, _, _, _, _, _, _, _, _, _, _, rfl, _⟩ := h; rfl) | (obtain ⟨_, _, _, _, _, _, _, _, _, _, _, _, _, _, _, _, rfl, _⟩ := h; rfl) | (obtain ⟨_, _, _, _, _, _, _, _, _, _, _, _, _, _, _, _, _, rfl, _⟩ := h; rfl) | (obtain ⟨_, _, _, _, _, _, _, _, _, _, _, _, _, _, _, _, _, _, rfl, _⟩ := h; rfl) | (obtain ⟨_, _, _, _, _, _, _, _, _, _, _, _, _, _, _, _, _, _, _, rfl, _⟩ := h; rfl) | (obtain ⟨_, _, _, _, _, _, _, _, _, _, _, _, _, _, _, _, _, _, _, _, rfl, _⟩ := h; rfl) | (obtain ⟨_, _, _, _, _, _, _, _, _, _, _, _, _, _, _, _, _, _, _, _, _, rfl, _⟩ := h; rfl) | (obtain ⟨rfl, _⟩ := h; rfl))
theorem ok_Cells_products (T : Txt K mg) : FnOk Pg T.w0 K mg base CX0 4 T.D_Cells_products.f T.D_Cells_products.d ["self", "one", "other"] ((spD K (F_Cells_products T))) := by
  have G_Outcomes_inner := ok_Outcomes_inner (Pg := Pg) (base := base) T
  have G_turned := ok_turned (Pg := Pg) (base := base) T
  refine T.D_Cells_products.F.ok (k := 3) sc_Cells_products (spD_len (len_Cells_products T)) (fun cdv A outer s H vs Q E hr h => ?_)
  refine ⟨_, (pss_cons (ps_set (i := 3) sc_Cells_products.nd rfl (by first | exact Or.inl rfl | exact Or.inr rfl) (pe_call G_turned (hr.mono (by decide)) (by rfl) T.D_turned.g T.D_turned.F.kp T.D_turned.b .nil pass0 (pa_cons (pv 2) pa_nil)))
    (pss_one (ps_ret (pe_lc (own := [("row", 4)]) rfl sc_Cells_products.nd (pi_seqK (K := K) rfl (pv 1)) (blkOk_by (N := ["self", "one", "other", "columns", "row", "column"]) (sc := defScope s_Cells_products) (by decide +kernel)) (fun _ _ _ _ _ => (pg_name (i := 4) sc_Cells_products.nd rfl (by first | exact Or.inl rfl | exact Or.inr rfl))) (fun _ _ _ _ _ => pts_nil) (fun _ _ _ _ _ => (pe_lc (own := [("column", 5)]) rfl sc_Cells_products.nd (pi_seqK (K := K) rfl (pv 3)) (by exact blkOk_by (N := ["self", "one", "other", "columns", "row", "column"]) (by kernel_rfl)) (fun _ _ _ _ _ => (pg_name (i := 5) sc_Cells_products.nd rfl (by first | exact Or.inl rfl | exact Or.inr rfl))) (fun _ _ _ _ _ => pts_nil) (fun _ _ _ _ _ => (pe_meth (pv 0) T.k_Outcomes.o.cl T.mt_Outcomes_inner G_Outcomes_inner (hr.mono (by decide)) T.D_Outcomes_inner.b .nil pass0 (pa_cons (pv 4) (pa_cons (pv 5) pa_nil)))))))))), ?_⟩
  try dsimp only [cxOf, Cx.blk, Cx.nox, Cx.wish]
  (refine body_of h fun W ds P eK f => ?_); subst eK
  obtain ⟨v, X, Y, r, m, c, rfl, d1, d2, r12, m1, m12, c12, ok, hP⟩ := f
  walk_at "pd"
  refine ⟨Y, c, rfl, fun z => by rw [z] at d2; have := d2.1; simp at this; omega, by rw [d2.1]; omega, d2.2, by omega, ?_⟩
  walk_at "pd"
  have dc := dim_colsX d2
  refine ev_lcM X .lst (fun row => .lst ((colsX Y c).map fun col => (al_Outcomes v).inn row col)) (it_seqL (ev_var rfl ⟨_, rfl, rfl, by rw [d1.1]; omega, fun i x hx => ⟨_, by simp, gd_name ?_⟩, ?_⟩))
  · have mx := List.mem_of_getElem? hx
    refine ev_mono (ev_lcM (colsX Y c) .lst (fun col => (al_Outcomes v).inn x col) (P := fun z => z = .lst ((colsX Y c).map fun col => (al_Outcomes v).inn x col)) (it_seqL (ev_var rfl ⟨_, rfl, rfl, by rw [colsX_len]; omega, fun j y hy => ⟨_, by simp, gd_name ?_⟩, rfl⟩))) fun _ z => z
    have my := List.mem_of_getElem? hy
    (refine ev_meth ?_; refine ev_var rfl ?_; refine ⟨_, _, rfl, by decide, ?_⟩)
    walk_at "pd"
    exact ⟨v, x, y, rfl, by rw [d1.2 x mx, dc.2 y my], by rw [d1.2 x mx]; exact m12, ok x mx y my, rfl⟩
  · rw [show P (.lst (X.map fun row => D.lst ((colsX Y c).map fun col => (al_Outcomes v).inn row col))) = P (gridX ((al_Outcomes v).prod X Y c)) by unfold gridX Al.prod; rw [List.map_map]; rfl]
    exact hP
def F_times : FD := fun ds P => ∃ (p q : Fr) (m n : Nat), ds = [fr p, fr q] ∧ 0 < p.2 ∧ 0 < q.2 ∧ Sz m p ∧ Sz n q ∧ m + n ≤ 8000 ∧ P (fr (mulF p q))
theorem len_times : ∀ ds P, F_times ds P → ds.length = 2 := by (intro ds P h; first | exact h | (obtain ⟨_, rfl, _⟩ := h; rfl) | (obtain ⟨_, _, rfl, _⟩ := h; rfl) | (obtain ⟨_, _, _, rfl, _⟩ := h; rfl) | (obtain ⟨_, _, _, _, rfl, _⟩ := h; rfl) | (obtain ⟨_, _, _, _, _, rfl, _⟩ := h; rfl) | (obtain ⟨_, _, _, _, _, _, rfl, _⟩ := h; rfl) | (obtain ⟨_, _, _, _, _, _, _, rfl, _⟩ := h; rfl) | (obtain ⟨_, _, _, _, _, _, _, _, rfl, _⟩ := h; rfl) | (obtain ⟨_, _, _, _, _, _, _, _, _, rfl, _⟩ := h; rfl) | (obtain ⟨_, _, _, _, _, _, _, _, _, _, rfl, _⟩ := h; rfl) | (obtain ⟨_, _, _, _, _, _, _, _, _, _, _, rfl, _⟩ := h; rfl) | (obtain ⟨_, _, _, _, _, _, _, _, _, _, _, _, rfl, _⟩ := h; rfl) | (obtain ⟨_, _, _, _, _, _, _, _, _, _, _, _, _, rfl, _⟩ := h; rfl) | (obtain ⟨_, _, _, _, _, _, _, _, _, _, _, _, _, rfl, _⟩ := h; rfl) | (obtain ⟨_, _, _, _, _, _, _, _, _, _, _, _, _, _, rfl, _⟩ := h; rfl) | (obtain ⟨_, _, _, _, _, _, _, _, _, _, _, _, _, _, _, rfl, _⟩ := h; rfl) | (obtain ⟨_, _, _, _, _, _, _, _, _, _, _, _, _, _, _, _, rfl, _⟩ := h; rfl) | (obtain ⟨_, _, _, _, _, _, _, _, _, _, _, _, _, _, _, _, _, rfl, _⟩ := h; rfl) | (obtain ⟨_, _, _, _, _, _, _, _, _, _, _, _, _, _, _, _, _, _, rfl, _⟩ := h; rfl) | (obtain ⟨_, _, _, _, _, _, _, _, _, _, _, _, _, _, _, _, _, _, _, rfl, _⟩ := h; rfl) | (obtain ⟨_, _, _, _, _, _, _, _, _, _, _, _, _, _, _, _, _, _, _, _, rfl, _⟩ := h; rfl) | (obtain ⟨_, _, _, _, _, _, _, _, _, _, _, _, _, _, _, _, _, _, _, _, _, rfl, _⟩ := h; rfl) | (obtain ⟨rfl, _⟩ := h; rfl))
theorem ok_times (T : Txt K mg) : FnOk Pg T.w0 K mg base CX0 2 T.D_times.f T.D_times.d ["one", "other"] ((spD K F_times)) := by
  have G_lowest := ok_lowest (Pg := Pg) (base := base) T
  refine T.D_times.F.ok (k := 1) sc_times (spD_len (len_times)) (fun cdv A outer s H vs Q E hr h => ?_)
  refine ⟨_, (pss_one (ps_ret (pe_call G_lowest (hr.mono (by decide)) (by rfl) T.D_lowest.g T.D_lowest.F.kp T.D_lowest.b .nil pass0 (pa_cons (pe_op op_mulW (pe_ix (ix_seqK (K := K) rfl) (pv 0) pe_int (fun _ _ => rfl)) (pe_ix (ix_seqK (K := K) rfl) (pv 1) pe_int (fun _ _ => rfl))) (pa_cons (pe_op op_mulW (pe_ix (ix_seqK (K := K) rfl) (pv 0) pe_int (fun _ _ => rfl)) (pe_ix (ix_seqK (K := K) rfl) (pv 1) pe_int (fun _ _ => rfl))) pa_nil))))), ?_⟩
  try dsimp only [cxOf, Cx.blk, Cx.nox, Cx.wish]
  (refine body_of h fun W ds P eK f => ?_); subst eK
  obtain ⟨p, q, m, n, rfl, hp, hq, ⟨s1, s2⟩, ⟨s3, s4⟩, hmn, hP⟩ := f
  walk_at "pd"
  · exact mul_okN s1 s3 (by omega)
  · exact mul_okN s2 s4 (by omega)
  · exact ⟨_, _, rfl, Int.mul_pos hp hq, lt_pow (mul_lt s2 s4) hmn, hP⟩
def F_Outcomes_product_of : FD := fun ds P => ∃ a b c : D, ds = [a, b, c] ∧ False
theorem len_Outcomes_product_of : ∀ ds P, F_Outcomes_product_of ds P → ds.length = 3 := by (intro ds P h; first | exact h | (obtain ⟨_, rfl, _⟩ := h; rfl) | (obtain ⟨_, _, rfl, _⟩ := h; rfl) | (obtain ⟨_, _, _, rfl, _⟩ := h; rfl) | (obtain ⟨_, _, _, _, rfl, _⟩ := h; rfl) | (obtain ⟨_, _, _, _, _, rfl, _⟩ := h; rfl) | (obtain ⟨_, _, _, _, _, _, rfl, _⟩ := h; rfl) | (obtain ⟨_, _, _, _, _, _, _, rfl, _⟩ := h; rfl) | (obtain ⟨_, _, _, _, _, _, _, _, rfl, _⟩ := h; rfl) | (obtain ⟨_, _, _, _, _, _, _, _, _, rfl, _⟩ := h; rfl) | (obtain ⟨_, _, _, _, _, _, _, _, _, _, rfl, _⟩ := h; rfl) | (obtain ⟨_, _, _, _, _, _, _, _, _, _, _, rfl, _⟩ := h; rfl) | (obtain ⟨_, _, _, _, _, _, _, _, _, _, _, _, rfl, _⟩ := h; rfl) | (obtain ⟨_, _, _, _, _, _, _, _, _, _, _, _, _, rfl, _⟩ := h; rfl) | (obtain ⟨_, _, _, _, _, _, _, _, _, _, _, _, _, rfl, _⟩ := h; rfl) | (obtain ⟨_, _, _, _, _, _, _, _, _, _, _, _, _, _, rfl, _⟩ := h; rfl) | (obtain ⟨_, _, _, _, _, _, _, _, _, _, _, _, _, _, _, rfl, _⟩ := h; rfl) | (obtain ⟨_, _, _, _, _, _, _, _, _, _, _, _, _, _, _, _, rfl, _⟩ := h; rfl) | (obtain ⟨_, _, _, _, _, _, _, _, _, _, _, _, _, _, _, _, _, rfl, _⟩ := h; rfl) | (obtain ⟨_, _, _, _, _, _, _, _, _, _, _, _, _, _, _, _, _, _, rfl, _⟩ := h; rfl) | (obtain ⟨_, _, _, _, _, _, _, _, _, _, _, _, _, _, _, _, _, _, _, rfl, _⟩ := h; rfl) | (obtain ⟨_, _, _, _, _, _, _, _, _, _, _, _, _, _, _, _, _, _, _, _, rfl, _⟩ := h; rfl) | (obtain ⟨_, _, _, _, _, _, _, _, _, _, _, _, _, _, _, _, _, _, _, _, _, rfl, _⟩ := h; rfl) | (obtain ⟨rfl, _⟩ := h; rfl))
theorem ok_Outcomes_product_of (T : Txt K mg) : FnOk Pg T.w0 K mg base CX0 3 T.D_Outcomes_product_of.f T.D_Outcomes_product_of.d ["self", "one", "other"] ((spD K F_Outcomes_product_of)) := by
  have G_times := ok_times (Pg := Pg) (base := base) T
  refine T.D_Outcomes_product_of.F.ok (k := 2) sc_Outcomes_product_of (spD_len (len_Outcomes_product_of)) (fun cdv A outer s H vs Q E hr h => ?_)
  refine ⟨_, (pss_cons (ps_if (PW.pt (pw_or (pt_cmpR (op_eqDK (K := K) rfl (hr_u hr)) (pv 1) (pe_glob (v := .str "endless") rfl T.c_ENDLESS ⟨_, rfl⟩) (nomark _)) (pw_or1 (pt_cmpR (op_eqDK (K := K) rfl (hr_u hr)) (pv 2) (pe_glob (v := .str "endless") rfl T.c_ENDLESS ⟨_, rfl⟩) (nomark _)))))
      (pss_one (ps_ret (pe_glob (v := .str "endless") rfl T.c_ENDLESS ⟨_, rfl⟩)))
      pss_nil)
    (pss_one (ps_ret (pe_call G_times (hr.mono (by decide)) (by rfl) T.D_times.g T.D_times.F.kp T.D_times.b .nil pass0 (pa_cons (pv 1) (pa_cons (pv 2) pa_nil)))))), ?_⟩
  try dsimp only [cxOf, Cx.blk, Cx.nox, Cx.wish]
  (refine body_of h fun W ds P eK f => ?_); subst eK
  obtain ⟨_, _, _, _, z⟩ := f
  exact z.elim
def F_plus : FD := fun ds P => ∃ p q : Fr, ds = [fr p, fr q] ∧ 0 < p.2 ∧ 0 < q.2 ∧ Sz 2000 p ∧ Sz 2000 q ∧ P (fr (addF p q))
theorem len_plus : ∀ ds P, F_plus ds P → ds.length = 2 := by (intro ds P h; first | exact h | (obtain ⟨_, rfl, _⟩ := h; rfl) | (obtain ⟨_, _, rfl, _⟩ := h; rfl) | (obtain ⟨_, _, _, rfl, _⟩ := h; rfl) | (obtain ⟨_, _, _, _, rfl, _⟩ := h; rfl) | (obtain ⟨_, _, _, _, _, rfl, _⟩ := h; rfl) | (obtain ⟨_, _, _, _, _, _, rfl, _⟩ := h; rfl) | (obtain ⟨_, _, _, _, _, _, _, rfl, _⟩ := h; rfl) | (obtain ⟨_, _, _, _, _, _, _, _, rfl, _⟩ := h; rfl) | (obtain ⟨_, _, _, _, _, _, _, _, _, rfl, _⟩ := h; rfl) | (obtain ⟨_, _, _, _, _, _, _, _, _, _, rfl, _⟩ := h; rfl) | (obtain ⟨_, _, _, _, _, _, _, _, _, _, _, rfl, _⟩ := h; rfl) | (obtain ⟨_, _, _, _, _, _, _, _, _, _, _, _, rfl, _⟩ := h; rfl) | (obtain ⟨_, _, _, _, _, _, _, _, _, _, _, _, _, rfl, _⟩ := h; rfl) | (obtain ⟨_, _, _, _, _, _, _, _, _, _, _, _, _, rfl, _⟩ := h; rfl) | (obtain ⟨_, _, _, _, _, _, _, _, _, _, _, _, _, _, rfl, _⟩ := h; rfl) | (obtain ⟨_, _, _, _, _, _, _, _, _, _, _, _, _, _, _, rfl, _⟩ := h; rfl) | (obtain ⟨_, _, _, _, _, _, _, _, _, _, _, _, _, _, _, _, rfl, _⟩ := h; rfl) | (obtain ⟨_, _, _, _, _, _, _, _, _, _, _, _, _, _, _, _, _, rfl, _⟩ := h; rfl) | (obtain ⟨_, _, _, _, _, _, _, _, _, _, _, _, _, _, _, _, _, _, rfl, _⟩ := h; rfl) | (obtain ⟨_, _, _, _, _, _, _, _, _, _, _, _, _, _, _, _, _, _, _, rfl, _⟩ := h; rfl) | (obtain ⟨_, _, _, _, _, _, _, _, _, _, _, _, _, _, _, _, _, _, _, _, rfl, _⟩ := h; rfl) | (obtain ⟨_, _, _, _, _, _, _, _, _, _, _, _, _, _, _, _, _, _, _, _, _, rfl, _⟩ := h; rfl) | (obtain ⟨rfl, _⟩ := h; rfl))
theorem ok_plus (T : Txt K mg) : FnOk Pg T.w0 K mg base CX0 2 T.D_plus.f T.D_plus.d ["one", "other"] ((spD K F_plus)) := by
  have G_lowest := ok_lowest (Pg := Pg) (base := base) T
  refine T.D_plus.F.ok (k := 1) sc_plus (spD_len (len_plus)) (fun cdv A outer s H vs Q E hr h => ?_)
  refine ⟨_, (pss_one (ps_ret (pe_call G_lowest (hr.mono (by decide)) (by rfl) T.D_lowest.g T.D_lowest.F.kp T.D_lowest.b .nil pass0 (pa_cons (pe_op (op_plusK (K := K) rfl) (pe_op op_mulW (pe_ix (ix_seqK (K := K) rfl) (pv 0) pe_int (fun _ _ => rfl)) (pe_ix (ix_seqK (K := K) rfl) (pv 1) pe_int (fun _ _ => rfl))) (pe_op op_mulW (pe_ix (ix_seqK (K := K) rfl) (pv 1) pe_int (fun _ _ => rfl)) (pe_ix (ix_seqK (K := K) rfl) (pv 0) pe_int (fun _ _ => rfl)))) (pa_cons (pe_op op_mulW (pe_ix (ix_seqK (K := K) rfl) (pv 0) pe_int (fun _ _ => rfl)) (pe_ix (ix_seqK (K := K) rfl) (pv 1) pe_int (fun _ _ => rfl))) pa_nil))))), ?_⟩
  try dsimp only [cxOf, Cx.blk, Cx.nox, Cx.wish]
  (refine body_of h fun W ds P eK f => ?_); subst eK
  obtain ⟨p, q, rfl, hp, hq, ⟨s1, s2⟩, ⟨s3, s4⟩, hP⟩ := f
  walk_at "pd"
  · exact mul_ok s1 s4
  · exact mul_ok s3 s2
  · exact mul_ok s2 s4
  · exact ⟨_, _, rfl, Int.mul_pos hp hq, prod_sz s2 s4, hP⟩
def F_Outcomes_sum_of {K : PySem.W.Frag} {mg : Str → Option Value} (T : Txt K mg) : FD := fun ds P => ∃ (v : V_Outcomes) (x y : D), ds = [self_Outcomes T.k_Outcomes.C v, x, y] ∧ (al_Outcomes v).okP x y ∧ P ((al_Outcomes v).pl x y)
theorem len_Outcomes_sum_of {K : PySem.W.Frag} {mg : Str → Option Value} (T : Txt K mg) : ∀ ds P, (F_Outcomes_sum_of T) ds P → ds.length = 3 := by (intro ds P h; first | exact h | (obtain ⟨_, rfl, _⟩ := h; rfl) | (obtain ⟨_, _, rfl, _⟩ := h; rfl) | (obtain ⟨_, _, _, rfl, _⟩ := h; rfl) | (obtain ⟨_, _, _, _, rfl, _⟩ := h; rfl) | (obtain ⟨_, _, _, _, _, rfl, _⟩ := h; rfl) | (obtain ⟨_, _, _, _, _, _, rfl, _⟩ := h; rfl) | (obtain ⟨_, _, _, _, _, _, _, rfl, _⟩ := h; rfl) | (obtain ⟨_, _, _, _, _, _, _, _, rfl, _⟩ := h; rfl) | (obtain ⟨_, _, _, _, _, _, _, _, _, rfl, _⟩ := h; rfl) | (obtain ⟨_, _, _, _, _, _, _, _, _, _, rfl, _⟩ := h; rfl) | (obtain ⟨_, _, _, _, _, _, _, _, _, _, _, rfl, _⟩ := h; rfl) | (obtain ⟨_, _, _, _, _, _, _, _, _, _, _, _, rfl, _⟩ := h; rfl) | (obtain ⟨_, _, _, _, _, _, _, _, _, _, _, _, _, rfl, _⟩ := h; rfl) | (obtain ⟨_, _, _, _, _, _, _, _, _, _, _, _, _, rfl, _⟩ := h; rfl) | (obtain ⟨_, _, _, _, _, _, _, _, _, _, _, _, _, _, rfl, _⟩ := h; rfl) | (obtain ⟨_, _, _, _, _, _, _, _, _, _, _, _, _, _, _, rfl, _⟩ := h; rfl) | (obtain ⟨_, _, _, _, _, _, _, _, _, _, _, _, _, _, _, _, rfl, _⟩ := h; rfl) | (obtain ⟨_, _, _, _, _, _, _, _, _, _, _, _, _, _, _, _, _, rfl, _⟩ := h; rfl) | (obtain ⟨_, _, _, _, _, _, _, _, _, _, _, _, _, _, _, _, _, _, rfl, _⟩ := h; rfl) | (obtain ⟨_, _, _, _, _, _, _, _, _, _, _, _, _, _, _, _, _, _, _, rfl, _⟩ := h; rfl) | (obtain ⟨_, _, _, _, _, _, _, _, _, _, _, _, _, _, _, _, _, _, _, _, rfl, _⟩ := h; rfl) | (obtain ⟨_, _, _, _, _, _, _, _, _, _, _, _, _, _, _, _, _, _, _, _, _, rfl, _⟩ := h; rfl) | (obtain ⟨rfl, _⟩ := h; rfl))
theorem ok_Outcomes_sum_of (T : Txt K mg) : FnOk Pg T.w0 K mg base CX0 3 T.D_Outcomes_sum_of.f T.D_Outcomes_sum_of.d ["self", "one", "other"] ((spD K (F_Outcomes_sum_of T))) := by
  have G_plus := ok_plus (Pg := Pg) (base := base) T
  refine T.D_Outcomes_sum_of.F.ok (k := 2) sc_Outcomes_sum_of (spD_len (len_Outcomes_sum_of T)) (fun cdv A outer s H vs Q E hr h => ?_)
  refine ⟨_, (pss_cons (ps_if (PW.pt (pw_or (pt_cmpR (op_eqDK (K := K) rfl (hr_u hr)) (pv 1) (pe_glob (v := .str "endless") rfl T.c_ENDLESS ⟨_, rfl⟩) (nomark _)) (pw_or1 (pt_cmpR (op_eqDK (K := K) rfl (hr_u hr)) (pv 2) (pe_glob (v := .str "endless") rfl T.c_ENDLESS ⟨_, rfl⟩) (nomark _)))))
      (pss_one (ps_ret (pe_glob (v := .str "endless") rfl T.c_ENDLESS ⟨_, rfl⟩)))
      pss_nil)
    (pss_one (ps_ret (pe_call G_plus (hr.mono (by decide)) (by rfl) T.D_plus.g T.D_plus.F.kp T.D_plus.b .nil pass0 (pa_cons (pv 1) (pa_cons (pv 2) pa_nil)))))), ?_⟩
  try dsimp only [cxOf, Cx.blk, Cx.nox, Cx.wish]
  (refine body_of h fun W ds P eK f => ?_); subst eK
  obtain ⟨v, x, y, rfl, ⟨⟨p, rfl, hp, sp⟩, q, rfl, hq, sq⟩, hP⟩ := f
  walk_at "pd"
  refine rd_eqD (fr_fine p) end_fine ?_
  rw [fr_end]
  refine ⟨_, rfl, fun _ => ?_, fun z => (by cases z)⟩
  walk_at "pd"
  refine rd_eqD (fr_fine q) end_fine ?_
  rw [fr_end]
  refine ⟨_, rfl, fun z => (by cases z), fun _ => ?_⟩
  walk_at "pd"
  exact ⟨p, q, rfl, by have := hp.1; omega, by have := hq.1; omega, sp.mono (by decide), sq.mono (by decide), hP⟩
def F_Cells_with_paths : FD := fun ds P => ∃ a b c d e : D, ds = [a, b, c, d, e] ∧ False
theorem len_Cells_with_paths : ∀ ds P, F_Cells_with_paths ds P → ds.length = 5 := by (intro ds P h; first | exact h | (obtain ⟨_, rfl, _⟩ := h; rfl) | (obtain ⟨_, _, rfl, _⟩ := h; rfl) | (obtain ⟨_, _, _, rfl, _⟩ := h; rfl) | (obtain ⟨_, _, _, _, rfl, _⟩ := h; rfl) | (obtain ⟨_, _, _, _, _, rfl, _⟩ := h; rfl) | (obtain ⟨_, _, _, _, _, _, rfl, _⟩ := h; rfl) | (obtain ⟨_, _, _, _, _, _, _, rfl, _⟩ := h; rfl) | (obtain ⟨_, _, _, _, _, _, _, _, rfl, _⟩ := h; rfl) | (obtain ⟨_, _, _, _, _, _, _, _, _, rfl, _⟩ := h; rfl) | (obtain ⟨_, _, _, _, _, _, _, _, _, _, rfl, _⟩ := h; rfl) | (obtain ⟨_, _, _, _, _, _, _, _, _, _, _, rfl, _⟩ := h; rfl) | (obtain ⟨_, _, _, _, _, _, _, _, _, _, _, _, rfl, _⟩ := h; rfl) | (obtain ⟨_, _, _, _, _, _, _, _, _, _, _, _, _, rfl, _⟩ := h; rfl) | (obtain ⟨_, _, _, _, _, _, _, _, _, _, _, _, _, rfl, _⟩ := h; rfl) | (obtain ⟨_, _, _, _, _, _, _, _, _, _, _, _, _, _, rfl, _⟩ := h; rfl) | (obtain ⟨_, _, _, _, _, _, _, _, _, _, _, _, _, _, _, rfl, _⟩ := h; rfl) | (obtain ⟨_, _, _, _, _, _, _, _, _, _, _, _, _, _, _, _, rfl, _⟩ := h; rfl) | (obtain ⟨_, _, _, _, _, _, _, _, _, _, _, _, _, _, _, _, _, rfl, _⟩ := h; rfl) | (obtain ⟨_, _, _, _, _, _, _, _, _, _, _, _, _, _, _, _, _, _, rfl, _⟩ := h; rfl) | (obtain ⟨_, _, _, _, _, _, _, _, _, _, _, _, _, _, _, _, _, _, _, rfl, _⟩ := h; rfl) | (obtain ⟨_, _, _, _, _, _, _, _, _, _, _, _, _, _, _, _, _, _, _, _, rfl, _⟩ := h; rfl) | (obtain ⟨_, _, _, _, _, _, _, _, _, _, _, _, _, _, _, _, _, _, _, _, _, rfl, _⟩ := h; rfl) | (obtain ⟨rfl, _⟩ := h; rfl))
theorem ok_Cells_with_paths (T : Txt K mg) : FnOk Pg T.w0 K mg base CX0 4 T.D_Cells_with_paths.f T.D_Cells_with_paths.d ["self", "row", "to_place", "around", "from_place"] ((spD K F_Cells_with_paths)) := by
  have G_Outcomes_product_of := ok_Outcomes_product_of (Pg := Pg) (base := base) T
  have G_Outcomes_sum_of := ok_Outcomes_sum_of (Pg := Pg) (base := base) T
  refine T.D_Cells_with_paths.F.ok (k := 3) sc_Cells_with_paths (spD_len (len_Cells_with_paths)) (fun cdv A outer s H vs Q E hr h => ?_)
  refine ⟨_, (pss_cons (ps_if (pt_cmpR (op_eqDK (K := K) rfl (hr_u hr)) (pv 2) (pe_fldK (K := K) rfl (pv 0) rfl) (nomark _))
      (pss_one (ps_ret (pv 1)))
      pss_nil)
    (pss_cons (ps_set (i := 5) sc_Cells_with_paths.nd rfl (by first | exact Or.inl rfl | exact Or.inr rfl) (pe_meth (pv 0) T.k_Outcomes.o.cl T.mt_Outcomes_product_of G_Outcomes_product_of (hr.mono (by decide)) T.D_Outcomes_product_of.b .nil pass0 (pa_cons (pv 2) (pa_cons (pv 3) pa_nil))))
    (pss_one (ps_ret (pe_lc (own := [("there", 6), ("further", 7)]) rfl sc_Cells_with_paths.nd (pi_zipAK (K := K) rfl (by rfl) T.n_zip (pa_cons (pv 1) (pa_cons (pv 4) pa_nil))) (blkOk_by (N := ["self", "row", "to_place", "around", "from_place", "begun", "there", "further"]) (sc := defScope s_Cells_with_paths) (by decide +kernel)) (fun _ _ _ _ _ => (by exact (pg_tupK (K := K) (n := 2) rfl rfl (pgs_cons (pg_name (i := 6) sc_Cells_with_paths.nd rfl (by first | exact Or.inl rfl | exact Or.inr rfl)) (pgs_cons (pg_name (i := 7) sc_Cells_with_paths.nd rfl (by first | exact Or.inl rfl | exact Or.inr rfl)) pgs_nil))))) (fun _ _ _ _ _ => pts_nil) (fun _ _ _ _ _ => (pe_ifExp (pt_cmpR (op_eqDK (K := K) rfl (hr_u hr)) (pv 7) (pe_fldK (K := K) rfl (pv 0) rfl) (nomark _)) (pv 6) (pe_meth (pv 0) T.k_Outcomes.o.cl T.mt_Outcomes_sum_of G_Outcomes_sum_of (hr.mono (by decide)) T.D_Outcomes_sum_of.b .nil pass0 (pa_cons (pv 6) (pa_cons (pe_meth (pv 0) T.k_Outcomes.o.cl T.mt_Outcomes_product_of G_Outcomes_product_of (hr.mono (by decide)) T.D_Outcomes_product_of.b .nil pass0 (pa_cons (pv 5) (pa_cons (pv 7) pa_nil))) pa_nil)))))))))), ?_⟩
  try dsimp only [cxOf, Cx.blk, Cx.nox, Cx.wish]
  (refine body_of h fun W ds P eK f => ?_); subst eK
  obtain ⟨_, _, _, _, _, _, z⟩ := f
  exact z.elim
def F_Outcomes_powers_of : FD := fun ds P => ∃ a b : D, ds = [a, b] ∧ False
theorem len_Outcomes_powers_of : ∀ ds P, F_Outcomes_powers_of ds P → ds.length = 2 := by (intro ds P h; first | exact h | (obtain ⟨_, rfl, _⟩ := h; rfl) | (obtain ⟨_, _, rfl, _⟩ := h; rfl) | (obtain ⟨_, _, _, rfl, _⟩ := h; rfl) | (obtain ⟨_, _, _, _, rfl, _⟩ := h; rfl) | (obtain ⟨_, _, _, _, _, rfl, _⟩ := h; rfl) | (obtain ⟨_, _, _, _, _, _, rfl, _⟩ := h; rfl) | (obtain ⟨_, _, _, _, _, _, _, rfl, _⟩ := h; rfl) | (obtain ⟨_, _, _, _, _, _, _, _, rfl, _⟩ := h; rfl) | (obtain ⟨_, _, _, _, _, _, _, _, _, rfl, _⟩ := h; rfl) | (obtain ⟨_, _, _, _, _, _, _, _, _, _, rfl, _⟩ := h; rfl) | (obtain ⟨_, _, _, _, _, _, _, _, _, _, _, rfl, _⟩ := h; rfl) | (obtain ⟨_, _, _, _, _, _, _, _, _, _, _, _, rfl, _⟩ := h; rfl) | (obtain ⟨_, _, _, _, _, _, _, _, _, _, _, _, _, rfl, _⟩ := h; rfl) | (obtain ⟨_, _, _, _, _, _, _, _, _, _, _, _, _, rfl, _⟩ := h; rfl) | (obtain ⟨_, _, _, _, _, _, _, _, _, _, _, _, _, _, rfl, _⟩ := h; rfl) | (obtain ⟨_, _, _, _, _, _, _, _, _, _, _, _, _, _, _, rfl, _⟩ := h; rfl) | (obtain ⟨_, _, _, _, _, _, _, _, _, _, _, _, _, _, _, _, rfl, _⟩ := h; rfl) | (obtain ⟨_, _, _, _, _, _, _, _, _, _, _, _, _, _, _, _, _, rfl, _⟩ := h; rfl) | (obtain ⟨_, _, _, _, _, _, _, _, _, _, _, _, _, _, _, _, _, _, rfl, _⟩ := h; rfl) | (obtain ⟨_, _, _, _, _, _, _, _, _, _, _, _, _, _, _, _, _, _, _, rfl, _⟩ := h; rfl) | (obtain ⟨_, _, _, _, _, _, _, _, _, _, _, _, _, _, _, _, _, _, _, _, rfl, _⟩ := h; rfl) | (obtain ⟨_, _, _, _, _, _, _, _, _, _, _, _, _, _, _, _, _, _, _, _, _, rfl, _⟩ := h; rfl) | (obtain ⟨rfl, _⟩ := h; rfl))
theorem ok_Outcomes_powers_of (T : Txt K mg) : FnOk Pg T.w0 K mg base CX0 2 T.D_Outcomes_powers_of.f T.D_Outcomes_powers_of.d ["self", "one"] ((spD K F_Outcomes_powers_of)) := by
  have G_lowest := ok_lowest (Pg := Pg) (base := base) T
  refine T.D_Outcomes_powers_of.F.ok (k := 1) sc_Outcomes_powers_of (spD_len (len_Outcomes_powers_of)) (fun cdv A outer s H vs Q E hr h => ?_)
  refine ⟨_, (pss_cons (ps_if (PW.pt (pw_or (pt_cmpR (op_eqDK (K := K) rfl (hr_u hr)) (pv 1) (pe_glob (v := .str "endless") rfl T.c_ENDLESS ⟨_, rfl⟩) (nomark _)) (pw_or1 (pt_cmpR op_ge (pe_ix (ix_seqK (K := K) rfl) (pv 1) pe_int (fun _ _ => rfl)) (pe_ix (ix_seqK (K := K) rfl) (pv 1) pe_int (fun _ _ => rfl)) (nomark _)))))
      (pss_one (ps_ret (pe_glob (v := .str "endless") rfl T.c_ENDLESS ⟨_, rfl⟩)))
      pss_nil)
    (pss_one (ps_ret (pe_call G_lowest (hr.mono (by decide)) (by rfl) T.D_lowest.g T.D_lowest.F.kp T.D_lowest.b .nil pass0 (pa_cons (pe_ix (ix_seqK (K := K) rfl) (pv 1) pe_int (fun _ _ => rfl)) (pa_cons (pe_op op_sub (pe_ix (ix_seqK (K := K) rfl) (pv 1) pe_int (fun _ _ => rfl)) (pe_ix (ix_seqK (K := K) rfl) (pv 1) pe_int (fun _ _ => rfl))) pa_nil)))))), ?_⟩
  try dsimp only [cxOf, Cx.blk, Cx.nox, Cx.wish]
  (refine body_of h fun W ds P eK f => ?_); subst eK
  obtain ⟨_, _, _, z⟩ := f
  exact z.elim
def F_Cells_stars {K : PySem.W.Frag} {mg : Str → Option Value} (T : Txt K mg) : FD := fun ds P => ∃ (v : V_Outcomes) (X : GX) (n : Nat), ds = [self_Outcomes T.k_Outcomes.C v, gridX X] ∧ DimX X n n ∧ 1 ≤ n ∧ n ≤ 12 ∧ (al_Outcomes v).okS X ∧ P (gridX ((al_Outcomes v).st X))
theorem len_Cells_stars {K : PySem.W.Frag} {mg : Str → Option Value} (T : Txt K mg) : ∀ ds P, (F_Cells_stars T) ds P → ds.length = 2 := by (intro ds P h; first | exact h | (obtain ⟨_, rfl, _⟩ := h; rfl) | (obtain ⟨_, _, rfl, _⟩ := h; rfl) | (obtain ⟨_, _, _, rfl, _⟩ := h; rfl) | (obtain ⟨_, _, _, _, rfl, _⟩ := h; rfl) | (obtain ⟨_, _, _, _, _, rfl, _⟩ := h; rfl) | (obtain ⟨_, _, _, _, _, _, rfl, _⟩ := h; rfl) | (obtain ⟨_, _, _, _, _, _, _, rfl, _⟩ := h; rfl) | (obtain ⟨_, _, _, _, _, _, _, _, rfl, _⟩ := h; rfl) | (obtain ⟨_, _, _, _, _, _, _, _, _, rfl, _⟩ := h; rfl) | (obtain ⟨_, _, _, _, _, _, _, _, _, _, rfl, _⟩ := h; rfl) | (obtain ⟨_, _, _, _, _, _, _, _, _, _, _, rfl, _⟩ := h; rfl) | (obtain ⟨_, _, _, _, _, _, _, _, _, _, _, _, rfl, _⟩ := h; rfl) | (obtain ⟨_, _, _, _, _, _, _, _, _, _, _, _, _, rfl, _⟩ := h; rfl) | (obtain ⟨_, _, _, _, _, _, _, _, _, _, _, _, _, rfl, _⟩ := h; rfl) | (obtain ⟨_, _, _, _, _, _, _, _, _, _, _, _, _, _, rfl, _⟩ := h; rfl) | (obtain ⟨_, _, _, _, _, _, _, _, _, _, _, _, _, _, _, rfl, _⟩ := h; rfl) | (obtain ⟨_, _, _, _, _, _, _, _, _, _, _, _, _, _, _, _, rfl, _⟩ := h; rfl) | (obtain ⟨_, _, _, _, _, _, _, _, _, _, _, _, _, _, _, _, _, rfl, _⟩ := h; rfl) | (obtain ⟨_, _, _, _, _, _, _, _, _, _, _, _, _, _, _, _, _, _, rfl, _⟩ := h; rfl) | (obtain ⟨_, _, _, _, _, _, _, _, _, _, _, _, _, _, _, _, _, _, _, rfl, _⟩ := h; rfl) | (obtain ⟨_, _, _, _, _, _, _, _, _, _, _, _, _, _, _, _, _, _, _, _, rfl, _⟩ := h; rfl) | (obtain ⟨_, _, _, _, _, _, _, _, _, _, _, _, _, _, _, _, _, _, _, _, _, rfl, _⟩ := h; rfl) | (obtain ⟨rfl, _⟩ := h; rfl))
theorem ok_Cells_stars (T : Txt K mg) : FnOk Pg T.w0 K mg base CX0 5 T.D_Cells_stars.f T.D_Cells_stars.d ["self", "rows"] ((spD K (F_Cells_stars T))) := by
  have G_Cells_with_paths := ok_Cells_with_paths (Pg := Pg) (base := base) T
  have G_Outcomes_powers_of := ok_Outcomes_powers_of (Pg := Pg) (base := base) T
  refine T.D_Cells_stars.F.ok (k := 4) sc_Cells_stars (spD_len (len_Cells_stars T)) (fun cdv A outer s H vs Q E hr h => ?_)
  refine ⟨_, (pss_cons (ps_set (i := 2) sc_Cells_stars.nd rfl (by first | exact Or.inl rfl | exact Or.inr rfl) (pv 1))
    (pss_cons (ps_for PassesOwn.never rfl (pi_range1 (by rfl) T.n_range (pa_cons (pe_callB (call_lenK (K := K) rfl) (by rfl) T.n_len (by decide +kernel) (pa_cons (pv 1) pa_nil)) pa_nil)) (pg_name (i := 3) sc_Cells_stars.nd rfl (by first | exact Or.inl rfl | exact Or.inr rfl))
      (pss_cons (ps_set (i := 4) sc_Cells_stars.nd rfl (by first | exact Or.inl rfl | exact Or.inr rfl) (pe_meth (pv 0) T.k_Outcomes.o.cl T.mt_Outcomes_powers_of G_Outcomes_powers_of (hr.mono (by decide)) T.D_Outcomes_powers_of.b .nil pass0 (pa_cons (pe_ix (ix_seqK (K := K) rfl) (pe_ix (ix_seqK (K := K) rfl) (pv 2) (pv 3) (fun _ _ => rfl)) (pv 3) (fun _ _ => rfl)) pa_nil)))
    (pss_one (ps_set (i := 2) sc_Cells_stars.nd rfl (by first | exact Or.inl rfl | exact Or.inr rfl) (pe_lc (own := [("row", 5)]) rfl sc_Cells_stars.nd (pi_seqK (K := K) rfl (pv 2)) (blkOk_by (N := ["self", "rows", "sums", "k", "around", "row"]) (sc := defScope s_Cells_stars) (by decide +kernel)) (fun _ _ _ _ _ => (pg_name (i := 5) sc_Cells_stars.nd rfl (by first | exact Or.inl rfl | exact Or.inr rfl))) (fun _ _ _ _ _ => pts_nil) (fun _ _ _ _ _ => (pe_meth (pv 0) T.k_Outcomes.o.cl T.mt_Outcomes_with_paths G_Cells_with_paths (hr.mono (by decide)) T.D_Cells_with_paths.b .nil pass0 (pa_cons (pv 5) (pa_cons (pe_ix (ix_seqK (K := K) rfl) (pv 5) (pv 3) (fun _ _ => rfl)) (pa_cons (pv 4) (pa_cons (pe_ix (ix_seqK (K := K) rfl) (pv 2) (pv 3) (fun _ _ => rfl)) pa_nil)))))))))))
    (pss_one (ps_ret (pv 2))))), ?_⟩
  try dsimp only [cxOf, Cx.blk, Cx.nox, Cx.wish]
  (refine body_of h fun W ds P eK f => ?_); subst eK
  obtain ⟨v, X, n, rfl, _, _, _, ok, _⟩ := f
  exact ok.elim
def F_Cells_sums {K : PySem.W.Frag} {mg : Str → Option Value} (T : Txt K mg) : FD := fun ds P => ∃ (v : V_Outcomes) (X Y : GX), ds = [self_Outcomes T.k_Outcomes.C v, gridX X, gridX Y] ∧ X.length ≤ 12 ∧ (∀ x ∈ X, x.length ≤ 12) ∧ (∀ p ∈ X.zip Y, ∀ q ∈ p.1.zip p.2, (al_Outcomes v).okP q.1 q.2) ∧ P (gridX ((al_Outcomes v).sums X Y))
theorem len_Cells_sums {K : PySem.W.Frag} {mg : Str → Option Value} (T : Txt K mg) : ∀ ds P, (F_Cells_sums T) ds P → ds.length = 3 := by (intro ds P h; first | exact h | (obtain ⟨_, rfl, _⟩ := h; rfl) | (obtain ⟨_, _, rfl, _⟩ := h; rfl) | (obtain ⟨_, _, _, rfl, _⟩ := h; rfl) | (obtain ⟨_, _, _, _, rfl, _⟩ := h; rfl) | (obtain ⟨_, _, _, _, _, rfl, _⟩ := h; rfl) | (obtain ⟨_, _, _, _, _, _, rfl, _⟩ := h; rfl) | (obtain ⟨_, _, _, _, _, _, _, rfl, _⟩ := h; rfl) | (obtain ⟨_, _, _, _, _, _, _, _, rfl, _⟩ := h; rfl) | (obtain ⟨_, _, _, _, _, _, _, _, _, rfl, _⟩ := h; rfl) | (obtain ⟨_, _, _, _, _, _, _, _, _, _, rfl, _⟩ := h; rfl) | (obtain ⟨_, _, _, _, _, _, _, _, _, _, _, rfl, _⟩ := h; rfl) | (obtain ⟨_, _, _, _, _, _, _, _, _, _, _, _, rfl, _⟩ := h; rfl) | (obtain ⟨_, _, _, _, _, _, _, _, _, _, _, _, _, rfl, _⟩ := h; rfl) | (obtain ⟨_, _, _, _, _, _, _, _, _, _, _, _, _, rfl, _⟩ := h; rfl) | (obtain ⟨_, _, _, _, _, _, _, _, _, _, _, _, _, _, rfl, _⟩ := h; rfl) | (obtain ⟨_, _, _, _, _, _, _, _, _, _, _, _, _, _, _, rfl, _⟩ := h; rfl) | (obtain ⟨_, _, _, _, _, _, _, _, _, _, _, _, _, _, _, _, rfl, _⟩ := h; rfl) | (obtain ⟨_, _, _, _, _, _, _, _, _, _, _, _, _, _, _, _, _, rfl, _⟩ := h; rfl) | (obtain ⟨_, _, _, _, _, _, _, _, _, _, _, _, _, _, _, _, _, _, rfl, _⟩ := h; rfl) | (obtain ⟨_, _, _, _, _, _, _, _, _, _, _, _, _, _, _, _, _, _, _, rfl, _⟩ := h; rfl) | (obtain ⟨_, _, _, _, _, _, _, _, _, _, _, _, _, _, _, _, _, _, _, _, rfl, _⟩ := h; rfl) | (obtain ⟨_, _, _, _, _, _, _, _, _, _, _, _, _, _, _, _, _, _, _, _, _, rfl, _⟩ := h; rfl) | (obtain ⟨rfl, _⟩ := h; rfl))
theorem ok_Cells_sums (T : Txt K mg) : FnOk Pg T.w0 K mg base CX0 4 T.D_Cells_sums.f T.D_Cells_sums.d ["self", "one", "other"] ((spD K (F_Cells_sums T))) := by
  have G_Outcomes_sum_of := ok_Outcomes_sum_of (Pg := Pg) (base := base) T
  refine T.D_Cells_sums.F.ok (k := 3) sc_Cells_sums (spD_len (len_Cells_sums T)) (fun cdv A outer s H vs Q E hr h => ?_)
  refine ⟨_, (pss_one (ps_ret (pe_lc (own := [("row", 3), ("line", 4)]) rfl sc_Cells_sums.nd (pi_zipAK (K := K) rfl (by rfl) T.n_zip (pa_cons (pv 1) (pa_cons (pv 2) pa_nil))) (blkOk_by (N := ["self", "one", "other", "row", "line", "first", "second"]) (sc := defScope s_Cells_sums) (by decide +kernel)) (fun _ _ _ _ _ => (by exact (pg_tupK (K := K) (n := 2) rfl rfl (pgs_cons (pg_name (i := 3) sc_Cells_sums.nd rfl (by first | exact Or.inl rfl | exact Or.inr rfl)) (pgs_cons (pg_name (i := 4) sc_Cells_sums.nd rfl (by first | exact Or.inl rfl | exact Or.inr rfl)) pgs_nil))))) (fun _ _ _ _ _ => pts_nil) (fun _ _ _ _ _ => (pe_lc (own := [("first", 5), ("second", 6)]) rfl sc_Cells_sums.nd (pi_zipAK (K := K) rfl (by rfl) T.n_zip (pa_cons (pv 3) (pa_cons (pv 4) pa_nil))) (by exact blkOk_by (N := ["self", "one", "other", "row", "line", "first", "second"]) (by kernel_rfl)) (fun _ _ _ _ _ => (by exact (pg_tupK (K := K) (n := 2) rfl rfl (pgs_cons (pg_name (i := 5) sc_Cells_sums.nd rfl (by first | exact Or.inl rfl | exact Or.inr rfl)) (pgs_cons (pg_name (i := 6) sc_Cells_sums.nd rfl (by first | exact Or.inl rfl | exact Or.inr rfl)) pgs_nil))))) (fun _ _ _ _ _ => pts_nil) (fun _ _ _ _ _ => (pe_meth (pv 0) T.k_Outcomes.o.cl T.mt_Outcomes_sum_of G_Outcomes_sum_of (hr.mono (by decide)) T.D_Outcomes_sum_of.b .nil pass0 (pa_cons (pv 5) (pa_cons (pv 6) pa_nil))))))))), ?_⟩
  try dsimp only [cxOf, Cx.blk, Cx.nox, Cx.wish]
  (refine body_of h fun W ds P eK f => ?_); subst eK
  obtain ⟨v, X, Y, rfl, d1, d2, ok, hP⟩ := f
  walk_at "pd"
  refine ev_lcM (X.zip Y) (fun p => .tup [.lst p.1, .lst p.2]) (fun p => .lst (List.zipWith (al_Outcomes v).pl p.1 p.2)) (it_zipL ?_)
  walk_at "pd"
  refine ⟨_, _, rfl, zipD_map _ _ _ _, by rw [List.length_zip]; omega, fun i x hx => ⟨_, ?_, gd_tup2 (gd_name (gd_name ?_))⟩, ?_⟩
  · simp
  · have ok := ok x (List.mem_of_getElem? hx)
    have h12 := d2 x.1 (List.of_mem_zip (List.mem_of_getElem? hx)).1
    refine ev_mono (ev_lcM (x.1.zip x.2) (fun p => .tup [p.1, p.2]) (fun p => (al_Outcomes v).pl p.1 p.2) (P := fun z => z = .lst (List.zipWith (al_Outcomes v).pl x.1 x.2)) (it_zipL ?_)) fun _ z => z
    walk_at "pd"
    refine ⟨_, _, rfl, zipD_X _ _, by rw [List.length_zip]; omega, fun j y hy => ⟨_, ?_, gd_tup2 (gd_name (gd_name ?_))⟩, ?_⟩
    · simp
    · (refine ev_meth ?_; refine ev_var rfl ?_; refine ⟨_, _, rfl, by decide, ?_⟩)
      walk_at "pd"
      exact ⟨v, y.1, y.2, rfl, ok y (List.mem_of_getElem? hy), rfl⟩
    · rw [List.zip, List.map_zipWith]
  · rw [show P (.lst ((X.zip Y).map fun p => D.lst (List.zipWith (al_Outcomes v).pl p.1 p.2))) = P (gridX ((al_Outcomes v).sums X Y)) by unfold gridX Al.sums; rw [List.map_zipWith, List.zip, List.map_zipWith]]
    exact hP
def F_Cells_rows_made {K : PySem.W.Frag} {mg : Str → Option Value} (T : Txt K mg) : FD := fun ds P => ∃ (v : V_Outcomes) (G : Nat → Option GX) (k : Str) (l : List Int) (M : GX) (gs : List D), ds = [self_Outcomes T.k_Outcomes.C v, stD k l, .lst gs] ∧ AtX G gs ∧ MkX (al_Outcomes v) G k l M ∧ P (gridX M)
theorem len_Cells_rows_made {K : PySem.W.Frag} {mg : Str → Option Value} (T : Txt K mg) : ∀ ds P, (F_Cells_rows_made T) ds P → ds.length = 3 := by (intro ds P h; first | exact h | (obtain ⟨_, rfl, _⟩ := h; rfl) | (obtain ⟨_, _, rfl, _⟩ := h; rfl) | (obtain ⟨_, _, _, rfl, _⟩ := h; rfl) | (obtain ⟨_, _, _, _, rfl, _⟩ := h; rfl) | (obtain ⟨_, _, _, _, _, rfl, _⟩ := h; rfl) | (obtain ⟨_, _, _, _, _, _, rfl, _⟩ := h; rfl) | (obtain ⟨_, _, _, _, _, _, _, rfl, _⟩ := h; rfl) | (obtain ⟨_, _, _, _, _, _, _, _, rfl, _⟩ := h; rfl) | (obtain ⟨_, _, _, _, _, _, _, _, _, rfl, _⟩ := h; rfl) | (obtain ⟨_, _, _, _, _, _, _, _, _, _, rfl, _⟩ := h; rfl) | (obtain ⟨_, _, _, _, _, _, _, _, _, _, _, rfl, _⟩ := h; rfl) | (obtain ⟨_, _, _, _, _, _, _, _, _, _, _, _, rfl, _⟩ := h; rfl) | (obtain ⟨_, _, _, _, _, _, _, _, _, _, _, _, _, rfl, _⟩ := h; rfl) | (obtain ⟨_, _, _, _, _, _, _, _, _, _, _, _, _, rfl, _⟩ := h; rfl) | (obtain ⟨_, _, _, _, _, _, _, _, _, _, _, _, _, _, rfl, _⟩ := h; rfl) | (obtain ⟨_, _, _, _, _, _, _, _, _, _, _, _, _, _, _, rfl, _⟩ := h; rfl) | (obtain ⟨_, _, _, _, _, _, _, _, _, _, _, _, _, _, _, _, rfl, _⟩ := h; rfl) | (obtain ⟨_, _, _, _, _, _, _, _, _, _, _, _, _, _, _, _, _, rfl, _⟩ := h; rfl) | (obtain ⟨_, _, _, _, _, _, _, _, _, _, _, _, _, _, _, _, _, _, rfl, _⟩ := h; rfl) | (obtain ⟨_, _, _, _, _, _, _, _, _, _, _, _, _, _, _, _, _, _, _, rfl, _⟩ := h; rfl) | (obtain ⟨_, _, _, _, _, _, _, _, _, _, _, _, _, _, _, _, _, _, _, _, rfl, _⟩ := h; rfl) | (obtain ⟨_, _, _, _, _, _, _, _, _, _, _, _, _, _, _, _, _, _, _, _, _, rfl, _⟩ := h; rfl) | (obtain ⟨rfl, _⟩ := h; rfl))
theorem ok_Cells_rows_made (T : Txt K mg) : FnOk Pg T.w0 K mg base CX0 6 T.D_Cells_rows_made.f T.D_Cells_rows_made.d ["self", "step", "grids"] ((spD K (F_Cells_rows_made T))) := by
  have G_Cells_products := ok_Cells_products (Pg := Pg) (base := base) T
  have G_Cells_stars := ok_Cells_stars (Pg := Pg) (base := base) T
  have G_Cells_sums := ok_Cells_sums (Pg := Pg) (base := base) T
  have G_moved := ok_moved (Pg := Pg) (base := base) T
  refine T.D_Cells_rows_made.F.ok (k := 5) sc_Cells_rows_made (spD_len (len_Cells_rows_made T)) (fun cdv A outer s H vs Q E hr h => ?_)
  refine ⟨_, (pss_cons (ps_set (i := 3) sc_Cells_rows_made.nd rfl (by first | exact Or.inl rfl | exact Or.inr rfl) (pe_ix (ix_seqK (K := K) rfl) (pv 2) (pe_ix (ix_seqK (K := K) rfl) (pv 1) pe_int (fun _ _ => rfl)) (fun _ _ => rfl)))
    (pss_cons (ps_if (pt_cmpR (op_eqDK (K := K) rfl (hr_u hr)) (pe_ix (ix_seqK (K := K) rfl) (pv 1) pe_int (fun _ _ => rfl)) pe_str (nomark _))
      (pss_one (ps_ret (pe_meth (pv 0) T.k_Outcomes.o.cl T.mt_Outcomes_sums G_Cells_sums (hr.mono (by decide)) T.D_Cells_sums.b .nil pass0 (pa_cons (pv 3) (pa_cons (pe_ix (ix_seqK (K := K) rfl) (pv 2) (pe_ix (ix_seqK (K := K) rfl) (pv 1) pe_int (fun _ _ => rfl)) (fun _ _ => rfl)) pa_nil)))))
      pss_nil)
    (pss_cons (ps_if (pt_cmpR (op_eqDK (K := K) rfl (hr_u hr)) (pe_ix (ix_seqK (K := K) rfl) (pv 1) pe_int (fun _ _ => rfl)) pe_str (nomark _))
      (pss_one (ps_ret (pe_meth (pv 0) T.k_Outcomes.o.cl T.mt_Outcomes_products G_Cells_products (hr.mono (by decide)) T.D_Cells_products.b .nil pass0 (pa_cons (pv 3) (pa_cons (pe_ix (ix_seqK (K := K) rfl) (pv 2) (pe_ix (ix_seqK (K := K) rfl) (pv 1) pe_int (fun _ _ => rfl)) (fun _ _ => rfl)) pa_nil)))))
      pss_nil)
    (pss_cons (ps_if (pt_cmpR (op_eqDK (K := K) rfl (hr_u hr)) (pe_ix (ix_seqK (K := K) rfl) (pv 1) pe_int (fun _ _ => rfl)) pe_str (nomark _))
      (pss_one (ps_ret (pe_meth (pv 0) T.k_Outcomes.o.cl T.mt_Outcomes_stars G_Cells_stars (hr.mono (by decide)) T.D_Cells_stars.b .nil pass0 (pa_cons (pv 3) pa_nil))))
      pss_nil)
    (pss_one (ps_ret (pe_call G_moved (hr.mono (by decide)) (by rfl) T.D_moved.g T.D_moved.F.kp T.D_moved.b .nil pass0 (pa_cons (pv 1) (pa_cons (pv 2) pa_nil))))))))), ?_⟩
  try dsimp only [cxOf, Cx.blk, Cx.nox, Cx.wish]
  (refine body_of h fun W ds P eK f => ?_); subst eK
  obtain ⟨v, G, k, l, M, gs, rfl, hG, hM, hP⟩ := f
  have hM0 := hM
  have mv : k ≠ "plus" → k ≠ "times" → k ≠ "star" → F_moved [stD k l, .lst gs] P := fun k1 k2 k3 => ⟨_, G, k, l, M, gs, rfl, hG, hM0, k1, k2, k3, hP⟩
  cases hM with
  | @plus a b r c Z Y g g2 d d2 r12 c12 ok =>
    unfold stD
    walk_at "pd"
    refine rd_ixL (j := a) (by omega) (hG _ _ g) ?_
    walk_at "pd"
    (refine ev_meth ?_; refine ev_var rfl ?_; refine ⟨_, _, rfl, by decide, ?_⟩)
    walk_at "pd"
    refine rd_ixT (j := 2) rfl rfl ?_
    refine rd_ixL (j := b) (by omega) (hG _ _ g2) ?_
    walk_at "pd"
    exact ⟨v, _, _, rfl, by rw [d.1]; exact r12, fun x hx => by rw [d.2 x hx]; exact c12, ok, hP⟩
  | @times a b r m c Z Y g g2 d d2 m1 r12 m12 c12 ok =>
    unfold stD
    walk_at "pd"
    refine rd_ixL (j := a) (by omega) (hG _ _ g) ?_
    walk_at "pd"
    (refine ev_meth ?_; refine ev_var rfl ?_; refine ⟨_, _, rfl, by decide, ?_⟩)
    walk_at "pd"
    refine rd_ixT (j := 2) rfl rfl ?_
    refine rd_ixL (j := b) (by omega) (hG _ _ g2) ?_
    walk_at "pd"
    exact ⟨v, _, _, r, m, c, rfl, d, d2, r12, m1, m12, c12, ok, hP⟩
  | @star a n Z g d n1 n12 ok =>
    unfold stD
    walk_at "pd"
    refine rd_ixL (j := a) (by omega) (hG _ _ g) ?_
    walk_at "pd"
    (refine ev_meth ?_; refine ev_var rfl ?_; refine ⟨_, _, rfl, by decide, ?_⟩)
    walk_at "pd"
    exact ⟨v, _, n, rfl, d, n1, n12, ok, hP⟩
  | @turned a r c Z g d r1 r12 c12 =>
    have mv := mv (by decide) (by decide) (by decide)
    unfold stD at *
    walk_at "pd"
    refine rd_ixL (j := a) (by omega) (hG _ _ g) ?_
    walk_at "pd"
    exact mv
  | @above a b r m c Z Y g g2 d d2 r12 m12 c12 =>
    have mv := mv (by decide) (by decide) (by decide)
    unfold stD at *
    walk_at "pd"
    refine rd_ixL (j := a) (by omega) (hG _ _ g) ?_
    walk_at "pd"
    exact mv
  | @beside a b r m c Z Y g g2 d d2 r12 m12 c12 =>
    have mv := mv (by decide) (by decide) (by decide)
    unfold stD at *
    walk_at "pd"
    refine rd_ixL (j := a) (by omega) (hG _ _ g) ?_
    walk_at "pd"
    exact mv
  | @piece a i j h w r c Z g d ir jc h1 w1 r12 c12 =>
    have mv := mv (by decide) (by decide) (by decide)
    unfold stD at *
    walk_at "pd"
    refine rd_ixL (j := a) (by omega) (hG _ _ g) ?_
    walk_at "pd"
    exact mv
def F_Outcomes_put_in {K : PySem.W.Frag} {mg : Str → Option Value} (T : Txt K mg) : FD := fun ds P => ∃ (v : V_Outcomes) (n i j : Nat) (u : D), ds = [self_Outcomes T.k_Outcomes.C v, .int (n : Int), .int (i : Int), .int (j : Int), u] ∧ (al_Outcomes v).okU n i j u ∧ P ((al_Outcomes v).put n i j u)
theorem len_Outcomes_put_in {K : PySem.W.Frag} {mg : Str → Option Value} (T : Txt K mg) : ∀ ds P, (F_Outcomes_put_in T) ds P → ds.length = 5 := by (intro ds P h; first | exact h | (obtain ⟨_, rfl, _⟩ := h; rfl) | (obtain ⟨_, _, rfl, _⟩ := h; rfl) | (obtain ⟨_, _, _, rfl, _⟩ := h; rfl) | (obtain ⟨_, _, _, _, rfl, _⟩ := h; rfl) | (obtain ⟨_, _, _, _, _, rfl, _⟩ := h; rfl) | (obtain ⟨_, _, _, _, _, _, rfl, _⟩ := h; rfl) | (obtain ⟨_, _, _, _, _, _, _, rfl, _⟩ := h; rfl) | (obtain ⟨_, _, _, _, _, _, _, _, rfl, _⟩ := h; rfl) | (obtain ⟨_, _, _, _, _, _, _, _, _, rfl, _⟩ := h; rfl) | (obtain ⟨_, _, _, _, _, _, _, _, _, _, rfl, _⟩ := h; rfl) | (obtain ⟨_, _, _, _, _, _, _, _, _, _, _, rfl, _⟩ := h; rfl) | (obtain ⟨_, _, _, _, _, _, _, _, _, _, _, _, rfl, _⟩ := h; rfl) | (obtain ⟨_, _, _, _, _, _, _, _, _, _, _, _, _, rfl, _⟩ := h; rfl) | (obtain ⟨_, _, _, _, _, _, _, _, _, _, _, _, _, rfl, _⟩ := h; rfl) | (obtain ⟨_, _, _, _, _, _, _, _, _, _, _, _, _, _, rfl, _⟩ := h; rfl) | (obtain ⟨_, _, _, _, _, _, _, _, _, _, _, _, _, _, _, rfl, _⟩ := h; rfl) | (obtain ⟨_, _, _, _, _, _, _, _, _, _, _, _, _, _, _, _, rfl, _⟩ := h; rfl) | (obtain ⟨_, _, _, _, _, _, _, _, _, _, _, _, _, _, _, _, _, rfl, _⟩ := h; rfl) | (obtain ⟨_, _, _, _, _, _, _, _, _, _, _, _, _, _, _, _, _, _, rfl, _⟩ := h; rfl) | (obtain ⟨_, _, _, _, _, _, _, _, _, _, _, _, _, _, _, _, _, _, _, rfl, _⟩ := h; rfl) | (obtain ⟨_, _, _, _, _, _, _, _, _, _, _, _, _, _, _, _, _, _, _, _, rfl, _⟩ := h; rfl) | (obtain ⟨_, _, _, _, _, _, _, _, _, _, _, _, _, _, _, _, _, _, _, _, _, rfl, _⟩ := h; rfl) | (obtain ⟨rfl, _⟩ := h; rfl))
theorem ok_Outcomes_put_in (T : Txt K mg) : FnOk Pg T.w0 K mg base CX0 1 T.D_Outcomes_put_in.f T.D_Outcomes_put_in.d ["self", "number", "i", "j", "unit"] ((spD K (F_Outcomes_put_in T))) := by
  refine T.D_Outcomes_put_in.F.ok (k := 0) sc_Outcomes_put_in (spD_len (len_Outcomes_put_in T)) (fun cdv A outer s H vs Q E hr h => ?_)
  refine ⟨_, (pss_one (ps_ret (pe_ix (ix_seqK (K := K) rfl) (pe_ix (ix_seqK (K := K) rfl) (pe_ix (ix_seqK (K := K) rfl) (pe_fldK (K := K) rfl (pv 0) rfl) (pv 1) (fun _ _ => rfl)) (pv 2) (fun _ _ => rfl)) (pv 3) (fun _ _ => rfl)))), ?_⟩
  try dsimp only [cxOf, Cx.blk, Cx.nox, Cx.wish]
  (refine body_of h fun W ds P eK f => ?_); subst eK
  obtain ⟨v, n, i, j, u, rfl, ⟨g, row, p, e1, e2, e3⟩, hP⟩ := f
  walk_at "pd"
  refine ev_fld ?_
  refine ev_var rfl ?_
  refine ⟨_, _, _, _, rfl, T.k_Outcomes.o.cl, T.na_Outcomes_numbers, rfl, ?_⟩
  unfold numsD
  walk_at "pd"
  refine rd_ixT (j := n) (by omega) (by rw [List.getElem?_map, e1]; rfl) ?_
  walk_at "pd"
  refine rd_ixT (j := i) (by omega) (by rw [List.getElem?_map, e2]; rfl) ?_
  walk_at "pd"
  refine rd_ixT (j := j) (by omega) (by rw [List.getElem?_map, e3]; rfl) ?_
  have e : (al_Outcomes v).put n i j u = fr p := by
    show fr (((v.getD n []).getD i []).getD j (0, 1)) = fr p
    simp [List.getD_eq_getElem?_getD, e1, e2, e3]
  rw [e] at hP
  exact hP
def F_Cells_rows_put_in {K : PySem.W.Frag} {mg : Str → Option Value} (T : Txt K mg) : FD := fun ds P => ∃ (v : V_Outcomes) (n : Nat) (b : D) (rows : GX), ds = [self_Outcomes T.k_Outcomes.C v, .int (n : Int), .ins T.k_Grid.C ["bases", "rows"] [b, .tup (rows.map .tup)]] ∧ rows.length ≤ 12 ∧ (∀ r ∈ rows, r.length ≤ 12) ∧ (∀ (a b : Nat) (row : List D) (u : D), rows[a]? = some row → row[b]? = some u → u.isNon = false → (al_Outcomes v).okU n a b u) ∧ P (gridX ((al_Outcomes v).putG n rows))
theorem len_Cells_rows_put_in {K : PySem.W.Frag} {mg : Str → Option Value} (T : Txt K mg) : ∀ ds P, (F_Cells_rows_put_in T) ds P → ds.length = 3 := by (intro ds P h; first | exact h | (obtain ⟨_, rfl, _⟩ := h; rfl) | (obtain ⟨_, _, rfl, _⟩ := h; rfl) | (obtain ⟨_, _, _, rfl, _⟩ := h; rfl) | (obtain ⟨_, _, _, _, rfl, _⟩ := h; rfl) | (obtain ⟨_, _, _, _, _, rfl, _⟩ := h; rfl) | (obtain ⟨_, _, _, _, _, _, rfl, _⟩ := h; rfl) | (obtain ⟨_, _, _, _, _, _, _, rfl, _⟩ := h; rfl) | (obtain ⟨_, _, _, _, _, _, _, _, rfl, _⟩ := h; rfl) | (obtain ⟨_, _, _, _, _, _, _, _, _, rfl, _⟩ := h; rfl) | (obtain ⟨_, _, _, _, _, _, _, _, _, _, rfl, _⟩ := h; rfl) | (obtain ⟨_, _, _, _, _, _, _, _, _, _, _, rfl, _⟩ := h; rfl) | (obtain ⟨_, _, _, _, _, _, _, _, _, _, _, _, rfl, _⟩ := h; rfl) | (obtain ⟨_, _, _, _, _, _, _, _, _, _, _, _, _, rfl, _⟩ := h; rfl) | (obtain ⟨_, _, _, _, _, _, _, _, _, _, _, _, _, rfl, _⟩ := h; rfl) | (obtain ⟨_, _, _, _, _, _, _, _, _, _, _, _, _, _, rfl, _⟩ := h; rfl) | (obtain ⟨_, _, _, _, _, _, _, _, _, _, _, _, _, _, _, rfl, _⟩ := h; rfl) | (obtain ⟨_, _, _, _, _, _, _, _, _, _, _, _, _, _, _, _, rfl, _⟩ := h; rfl) | (obtain ⟨_, _, _, _, _, _, _, _, _, _, _, _, _, _, _, _, _, rfl, _⟩ := h; rfl) | (obtain ⟨_, _, _, _, _, _, _, _, _, _, _, _, _, _, _, _, _, _, rfl, _⟩ := h; rfl) | (obtain ⟨_, _, _, _, _, _, _, _, _, _, _, _, _, _, _, _, _, _, _, rfl, _⟩ := h; rfl) | (obtain ⟨_, _, _, _, _, _, _, _, _, _, _, _, _, _, _, _, _, _, _, _, rfl, _⟩ := h; rfl) | (obtain ⟨_, _, _, _, _, _, _, _, _, _, _, _, _, _, _, _, _, _, _, _, _, rfl, _⟩ := h; rfl) | (obtain ⟨rfl, _⟩ := h; rfl))
theorem ok_Cells_rows_put_in (T : Txt K mg) : FnOk Pg T.w0 K mg base CX0 2 T.D_Cells_rows_put_in.f T.D_Cells_rows_put_in.d ["self", "number", "grid"] ((spD K (F_Cells_rows_put_in T))) := by
  have G_Outcomes_put_in := ok_Outcomes_put_in (Pg := Pg) (base := base) T
  refine T.D_Cells_rows_put_in.F.ok (k := 1) sc_Cells_rows_put_in (spD_len (len_Cells_rows_put_in T)) (fun cdv A outer s H vs Q E hr h => ?_)
  refine ⟨_, (pss_cons (ps_set (i := 3) sc_Cells_rows_put_in.nd rfl (by first | exact Or.inl rfl | exact Or.inr rfl) (pe_lst pa_nil))
    (pss_cons (ps_for PassesOwn.never rfl (pi_enumT (K := K) rfl (by rfl) T.n_enumerate (pa_cons (pe_fldK (K := K) rfl (pv 2) rfl) pa_nil)) (by exact (pg_tupK (K := K) (n := 2) rfl rfl (pgs_cons (pg_name (i := 4) sc_Cells_rows_put_in.nd rfl (by first | exact Or.inl rfl | exact Or.inr rfl)) (pgs_cons (pg_name (i := 5) sc_Cells_rows_put_in.nd rfl (by first | exact Or.inl rfl | exact Or.inr rfl)) pgs_nil))))
      (pss_one (ps_expr (pe_bm PySem.F.plainAttrs_list PySem.F.slot_list_append PySem.F.type_list_append mt_append (pv 3) (pa_cons (pe_lc (own := [("j", 6), ("unit", 7)]) rfl sc_Cells_rows_put_in.nd (pi_enumT (K := K) rfl (by rfl) T.n_enumerate (pa_cons (pv 5) pa_nil)) (blkOk_by (N := ["self", "number", "grid", "rows", "i", "row", "j", "unit"]) (sc := defScope s_Cells_rows_put_in) (by decide +kernel)) (fun _ _ _ _ _ => (by exact (pg_tupK (K := K) (n := 2) rfl rfl (pgs_cons (pg_name (i := 6) sc_Cells_rows_put_in.nd rfl (by first | exact Or.inl rfl | exact Or.inr rfl)) (pgs_cons (pg_name (i := 7) sc_Cells_rows_put_in.nd rfl (by first | exact Or.inl rfl | exact Or.inr rfl)) pgs_nil))))) (fun _ _ _ _ _ => pts_nil) (fun _ _ _ _ _ => (pe_ifExp (pt_cmpR op_isN (pv 7) pe_non (nomark _)) (pe_fldK (K := K) rfl (pv 0) rfl) (pe_meth (pv 0) T.k_Outcomes.o.cl T.mt_Outcomes_put_in G_Outcomes_put_in (hr.mono (by decide)) T.D_Outcomes_put_in.b .nil pass0 (pa_cons (pv 1) (pa_cons (pv 4) (pa_cons (pv 6) (pa_cons (pv 7) pa_nil)))))))) pa_nil)))))
    (pss_one (ps_ret (pv 3))))), ?_⟩
  try dsimp only [cxOf, Cx.blk, Cx.nox, Cx.wish]
  refine body_ofO h fun W ds P eK f => ?_
  subst eK
  obtain ⟨v, n, b, rows, rfl, l12, r12, ok, hP⟩ := f
  refine so_seq (so_new ?_)
  walk_at "pd"
  refine fun p _ => ?_
  refine so_seq (so_for (it_enumT ?_))
  walk_at "pd"
  (refine ev_fld ?_; refine ev_var rfl ?_; refine ⟨_, _, _, _, rfl, T.k_Grid.o.cl, T.na_Grid_rows, rfl, ?_⟩)
  walk_at "pd"
  have lpg : ((al_Outcomes v).putG n rows).length = rows.length := by simp [Al.putG]
  refine ⟨_, rfl, fun i ω δ => ∃ x4 x5 x6 x7 : Option D, Has ω p ((((al_Outcomes v).putG n rows).take i).map .lst) ∧ δ = [some (self_Outcomes T.k_Outcomes.C v), some (.int (n : Int)), some (.ins T.k_Grid.C ["bases", "rows"] [b, .tup (rows.map .tup)]), some (.obj p), x4, x5, x6, x7], ⟨none, none, none, none, Has.new (fun x hx => by cases hx), rfl⟩, fun i d ω δ hd hI => ?_, fun ω δ hI => ?_⟩
  · obtain ⟨x4, x5, x6, x7, hp, rfl⟩ := hI
    obtain ⟨d', hd', rfl⟩ := enumD_get hd
    rw [List.getElem?_map] at hd'
    obtain ⟨row, hrow, rfl⟩ : ∃ row, rows[i]? = some row ∧ d' = .tup row := by
      cases e : rows[i]? with
      | none => rw [e] at hd'; cases hd'
      | some row => rw [e] at hd'; cases hd'; exact ⟨row, rfl, rfl⟩
    have lrow := r12 row (List.mem_of_getElem? hrow)
    refine ⟨_, gd_tup2 (gd_name (gd_name ?_))⟩
    refine so_app (i := 3) rfl hp.1 (fun es m => by rw [hp.2 es m, List.length_map, List.length_take]; omega) ?_
    walk_at "pd"
    refine ev_lcM (List.range row.length) (fun (k : Nat) => .tup [.int (k : Int), row.getD k .non]) (fun (k : Nat) => (al_Outcomes v).cell n i k (row.getD k .non)) (it_enumT ?_)
    walk_at "pd"
    refine ⟨_, rfl, enumM row, by rw [List.length_range]; omega, fun k k' hk => ⟨_, ?_, gd_tup2 (gd_name (gd_name ?_))⟩, ?_⟩
    · simp
    · obtain ⟨u, rfl⟩ := range_get hk
      have ek : row[k']? = some (row.getD k' .non) := listX_at u
      walk_at "pd"
      refine ⟨fun z => ?_, fun z => ?_⟩
      · (refine ev_fld ?_; refine ev_var rfl ?_; refine ⟨_, _, _, _, rfl, T.k_Outcomes.o.cl, T.na_Outcomes_nought, rfl, ?_⟩)
        unfold Al.cell
        rw [if_pos z]
        rfl
      · (refine ev_meth ?_; refine ev_var rfl ?_; refine ⟨_, _, rfl, by decide, ?_⟩)
        walk_at "pd"
        refine ⟨v, n, i, k', _, rfl, ok i k' row _ hrow ek z, ?_⟩
        unfold Al.cell
        rw [if_neg (by rw [z]; decide)]
    · walk_at "pd"
      have eg : ((al_Outcomes v).putG n rows)[i]? = some ((al_Outcomes v).putRow n i row) := by
        unfold Al.putG
        have hi := (List.getElem?_eq_some_iff.mp hrow).1
        rw [List.getElem?_map, List.getElem?_range hi]
        show some ((al_Outcomes v).putRow n i (rows.getD i [])) = _
        rw [List.getD_eq_getElem?_getD, hrow]
        rfl
      have nx : (((al_Outcomes v).putG n rows).take (i + 1)).map D.lst = (((al_Outcomes v).putG n rows).take i).map .lst ++ [.lst ((al_Outcomes v).putRow n i row)] := by
        rw [← take_snoc eg, List.map_append]
        rfl
      refine ⟨_, rfl, some (.int (i : Int)), some (.tup row), x6, x7, ?_, rfl⟩
      rw [nx]
      exact hp.put
  · obtain ⟨x4, x5, x6, x7, hp, rfl⟩ := hI
    have e : ((al_Outcomes v).putG n rows).take (enumD (rows.map D.tup)).length = (al_Outcomes v).putG n rows := by
      apply List.take_of_length_le
      rw [enumD_length, List.length_map, lpg]
      exact Nat.le_refl _
    rw [e] at hp
    exact so_retO (i := 3) rfl hp.1 hP
theorem mem_two {k : Str} {a b : Int} (hk : kindLen.lookup k = some 3) : a ∈ srcs k [a, b] ∧ b ∈ srcs k [a, b] := by
  unfold srcs
  rw [if_pos hk]
  simp
theorem mem_one {k : Str} {a : Int} {l : List Int} (hk : kindLen.lookup k ≠ some 3) : a ∈ srcs k (a :: l) := by
  unfold srcs
  rw [if_neg hk]
  simp
theorem mkx_mono {A : Al} {G G' : Nat → Option GX} {k : Str} {l : List Int} {M : GX} (h : MkX A G k l M) (hG : ∀ (a : Nat) (X : GX), (a : Int) ∈ srcs k l → G a = some X → G' a = some X) : MkX A G' k l M := by
  cases h with
  | plus g g2 d d2 a b ok => exact .plus (hG _ _ (mem_two rfl).1 g) (hG _ _ (mem_two rfl).2 g2) d d2 a b ok
  | times g g2 d d2 m a b c ok => exact .times (hG _ _ (mem_two rfl).1 g) (hG _ _ (mem_two rfl).2 g2) d d2 m a b c ok
  | beside g g2 d d2 a b c => exact .beside (hG _ _ (mem_two rfl).1 g) (hG _ _ (mem_two rfl).2 g2) d d2 a b c
  | above g g2 d d2 a b c => exact .above (hG _ _ (mem_two rfl).1 g) (hG _ _ (mem_two rfl).2 g2) d d2 a b c
  | turned g d a b c => exact .turned (hG _ _ (mem_one (by decide +kernel)) g) d a b c
  | star g d a b ok => exact .star (hG _ _ (mem_one (by decide +kernel)) g) d a b ok
  | piece g d a b c e f x => exact .piece (hG _ _ (mem_one (by decide +kernel)) g) d a b c e f x
theorem mkx_first {A : Al} {G : Nat → Option GX} {k : Str} {l : List Int} {M : GX} (h : MkX A G k l M) : ∃ (a : Nat) (X : GX), (a : Int) ∈ srcs k l ∧ G a = some X := by
  cases h with
  | plus g => exact ⟨_, _, (mem_two rfl).1, g⟩
  | times g => exact ⟨_, _, (mem_two rfl).1, g⟩
  | beside g => exact ⟨_, _, (mem_two rfl).1, g⟩
  | above g => exact ⟨_, _, (mem_two rfl).1, g⟩
  | turned g => exact ⟨_, _, mem_one (by decide +kernel), g⟩
  | star g => exact ⟨_, _, mem_one (by decide +kernel), g⟩
  | piece g => exact ⟨_, _, mem_one (by decide +kernel), g⟩
def F_Cells_grids_of {K : PySem.W.Frag} {mg : Str → Option Value} (T : Txt K mg) : FD := fun ds P => ∃ (v : V_Outcomes) (gs : List (D × List (List D))) (sts : List (Str × List Int)) (F : List GX) (r : List Sh) (a : Nat) (L : List Bool), ds = [self_Outcomes T.k_Outcomes.C v, scF T.k_Script.C T.k_Grid.C gs sts r, (.lst (L.map .bl))] ∧ ScX (al_Outcomes v) T.k_Grid.C gs sts F r ∧ (∀ M ∈ F, ∀ row ∈ M, ∀ c ∈ row, cellF c = true) ∧ a < gs.length + sts.length ∧ L.length = a + 1 ∧
  (∀ i, i ≤ a → L.getD i false = true → ∀ s, sts[i - gs.length]? = some s → gs.length ≤ i → ∀ j ∈ srcs s.1 s.2, L.getD j.toNat false = true) ∧ ∀ l : List D, (∀ i M, i ≤ a → L.getD i false = true → F[i]? = some M → l[i]? = some (gridX M)) → P (.lst l)
theorem len_Cells_grids_of {K : PySem.W.Frag} {mg : Str → Option Value} (T : Txt K mg) : ∀ ds P, (F_Cells_grids_of T) ds P → ds.length = 3 := by (intro ds P h; first | exact h | (obtain ⟨_, rfl, _⟩ := h; rfl) | (obtain ⟨_, _, rfl, _⟩ := h; rfl) | (obtain ⟨_, _, _, rfl, _⟩ := h; rfl) | (obtain ⟨_, _, _, _, rfl, _⟩ := h; rfl) | (obtain ⟨_, _, _, _, _, rfl, _⟩ := h; rfl) | (obtain ⟨_, _, _, _, _, _, rfl, _⟩ := h; rfl) | (obtain ⟨_, _, _, _, _, _, _, rfl, _⟩ := h; rfl) | (obtain ⟨_, _, _, _, _, _, _, _, rfl, _⟩ := h; rfl) | (obtain ⟨_, _, _, _, _, _, _, _, _, rfl, _⟩ := h; rfl) | (obtain ⟨_, _, _, _, _, _, _, _, _, _, rfl, _⟩ := h; rfl) | (obtain ⟨_, _, _, _, _, _, _, _, _, _, _, rfl, _⟩ := h; rfl) | (obtain ⟨_, _, _, _, _, _, _, _, _, _, _, _, rfl, _⟩ := h; rfl) | (obtain ⟨_, _, _, _, _, _, _, _, _, _, _, _, _, rfl, _⟩ := h; rfl) | (obtain ⟨_, _, _, _, _, _, _, _, _, _, _, _, _, rfl, _⟩ := h; rfl) | (obtain ⟨_, _, _, _, _, _, _, _, _, _, _, _, _, _, rfl, _⟩ := h; rfl) | (obtain ⟨_, _, _, _, _, _, _, _, _, _, _, _, _, _, _, rfl, _⟩ := h; rfl) | (obtain ⟨_, _, _, _, _, _, _, _, _, _, _, _, _, _, _, _, rfl, _⟩ := h; rfl) | (obtain ⟨_, _, _, _, _, _, _, _, _, _, _, _, _, _, _, _, _, rfl, _⟩ := h; rfl) | (obtain ⟨_, _, _, _, _, _, _, _, _, _, _, _, _, _, _, _, _, _, rfl, _⟩ := h; rfl) | (obtain ⟨_, _, _, _, _, _, _, _, _, _, _, _, _, _, _, _, _, _, _, rfl, _⟩ := h; rfl) | (obtain ⟨_, _, _, _, _, _, _, _, _, _, _, _, _, _, _, _, _, _, _, _, rfl, _⟩ := h; rfl) | (obtain ⟨_, _, _, _, _, _, _, _, _, _, _, _, _, _, _, _, _, _, _, _, _, rfl, _⟩ := h; rfl) | (obtain ⟨rfl, _⟩ := h; rfl))
theorem ok_Cells_grids_of (T : Txt K mg) : FnOk Pg T.w0 K mg base CX0 7 T.D_Cells_grids_of.f T.D_Cells_grids_of.d ["self", "script", "wanted"] ((spD K (F_Cells_grids_of T))) := by
  have G_Cells_rows_made := ok_Cells_rows_made (Pg := Pg) (base := base) T
  have G_Cells_rows_put_in := ok_Cells_rows_put_in (Pg := Pg) (base := base) T
  refine T.D_Cells_grids_of.F.ok (k := 6) sc_Cells_grids_of (spD_len (len_Cells_grids_of T)) (fun cdv A outer s H vs Q E hr h => ?_)
  refine ⟨_, (pss_cons (ps_set (i := 3) sc_Cells_grids_of.nd rfl (by first | exact Or.inl rfl | exact Or.inr rfl) (pe_callB (call_lenK (K := K) rfl) (by rfl) T.n_len (by decide +kernel) (pa_cons (pe_fldK (K := K) rfl (pv 1) rfl) pa_nil)))
    (pss_cons (ps_set (i := 4) sc_Cells_grids_of.nd rfl (by first | exact Or.inl rfl | exact Or.inr rfl) (pe_lst pa_nil))
    (pss_cons (ps_for PassesOwn.never rfl (pi_enumAK (K := K) rfl (by rfl) T.n_enumerate (pa_cons (pv 2) pa_nil)) (by exact (pg_tupK (K := K) (n := 2) rfl rfl (pgs_cons (pg_name (i := 5) sc_Cells_grids_of.nd rfl (by first | exact Or.inl rfl | exact Or.inr rfl)) (pgs_cons (pg_name (i := 6) sc_Cells_grids_of.nd rfl (by first | exact Or.inl rfl | exact Or.inr rfl)) pgs_nil))))
      (pss_one (ps_if (pt_not (pt_val (pv 6)))
      (pss_one (ps_expr (pe_bm PySem.F.plainAttrs_list PySem.F.slot_list_append PySem.F.type_list_append mt_append (pv 4) (pa_cons pe_non pa_nil))))
      (pss_one (ps_if (pt_cmpR op_lt (pv 5) (pv 3) (nomark _))
      (pss_one (ps_expr (pe_bm PySem.F.plainAttrs_list PySem.F.slot_list_append PySem.F.type_list_append mt_append (pv 4) (pa_cons (pe_meth (pv 0) T.k_Outcomes.o.cl T.mt_Outcomes_rows_put_in G_Cells_rows_put_in (hr.mono (by decide)) T.D_Cells_rows_put_in.b .nil pass0 (pa_cons (pv 5) (pa_cons (pe_ix (ix_seqK (K := K) rfl) (pe_fldK (K := K) rfl (pv 1) rfl) (pv 5) (fun _ _ => rfl)) pa_nil))) pa_nil))))
      (pss_one (ps_expr (pe_noK (K := K) rfl (pe_bm PySem.F.plainAttrs_list PySem.F.slot_list_append PySem.F.type_list_append mt_append (pv 4) (pa_cons (pe_meth (pv 0) T.k_Outcomes.o.cl T.mt_Outcomes_rows_made G_Cells_rows_made (hr.mono (by decide)) T.D_Cells_rows_made.b .nil pass0 (pa_cons (pe_ix (ix_seqK (K := K) rfl) (pe_fldK (K := K) rfl (pv 1) rfl) (pe_op op_sub (pv 5) (pv 3)) (fun _ _ => rfl)) (pa_cons (pv 4) pa_nil))) pa_nil))))))))))
    (pss_one (ps_ret (pv 4)))))), ?_⟩
  try dsimp only [cxOf, Cx.blk, Cx.nox, Cx.wish]
  refine body_ofO h fun W ds P eK f => ?_
  subst eK
  obtain ⟨v, gs, sts, F, r, a, L, rfl, hS, hcf, al, lL, hc, hP⟩ := f
  have g30 := hS.few
  unfold scF
  refine so_seq (so_asg ?_)
  walk_at "pd"
  refine ev_fld ?_
  refine ev_var rfl ?_
  refine ⟨_, _, _, _, rfl, T.k_Script.o.cl, T.na_Script_grids, rfl, ?_⟩
  walk_at "pd"
  rw [List.length_map]
  refine so_seq (so_new ?_)
  walk_at "pd"
  refine fun p fresh => ?_
  refine so_seq (so_for (it_enumAL ?_))
  walk_at "pd"
  refine ⟨_, rfl, fun k ω δ => ∃ (gl : List D) (x5 x6 : Option D), Has ω p gl ∧ (∀ x ∈ ω, x.1 = p) ∧ gl.length = k ∧ (∀ i M, i < k → L.getD i false = true → F[i]? = some M → gl[i]? = some (gridX M)) ∧ δ = [some (self_Outcomes T.k_Outcomes.C v), some (scD T.k_Script.C (.tup (gs.map (gridD T.k_Grid.C))) (.tup (sts.map fun s => stD s.1 s.2)) r), some (.lst (L.map .bl)), some (.int (gs.length : Int)), some (.obj p), x5, x6],
    ⟨[], none, none, Has.new fresh, (fun x hx => by rw [List.mem_singleton.mp hx]), rfl, fun i M h => absurd h (Nat.not_lt_zero i), rfl⟩, fun k d ω δ hd hI => ?_, fun ω δ hI => ?_⟩
  · obtain ⟨gl, x5, x6, hp, ho, hl, hg, rfl⟩ := hI
    obtain ⟨b', hb', rfl⟩ := enumD_get hd
    rw [List.getElem?_map] at hb'
    obtain ⟨b, hb, rfl⟩ : ∃ b, L[k]? = some b ∧ b' = .bl b := by
      cases e : L[k]? with
      | none => rw [e] at hb'; cases hb'
      | some b => rw [e] at hb'; cases hb'; exact ⟨b, rfl, rfl⟩
    have ka : k ≤ a := by have := (List.getElem?_eq_some_iff.mp hb).1; omega
    have hLk : L.getD k false = b := by rw [List.getD_eq_getElem?_getD, hb]; rfl
    have more : ∀ y : D, (b = true → ∀ M, F[k]? = some M → y = gridX M) → ∃ (gl' : List D) (x5 x6 : Option D), Has (putO ω p fun es => es ++ [y]) p gl' ∧ (∀ x ∈ putO ω p fun es => es ++ [y], x.1 = p) ∧ gl'.length = k + 1 ∧ (∀ i M, i < k + 1 → L.getD i false = true → F[i]? = some M → gl'[i]? = some (gridX M)) ∧ [some (self_Outcomes T.k_Outcomes.C v), some (scD T.k_Script.C (.tup (gs.map (gridD T.k_Grid.C))) (.tup (sts.map fun s => stD s.1 s.2)) r), some (.lst (L.map .bl)), some (.int (gs.length : Int)), some (.obj p), some (.int (k : Int)), some (.bl b)] = [some (self_Outcomes T.k_Outcomes.C v), some (scD T.k_Script.C (.tup (gs.map (gridD T.k_Grid.C))) (.tup (sts.map fun s => stD s.1 s.2)) r), some (.lst (L.map .bl)), some (.int (gs.length : Int)), some (.obj p), x5, x6] := fun y hy =>
      ⟨gl ++ [y], _, _, hp.put, fun x hx => by
        obtain ⟨⟨c, ds⟩, h1, h2⟩ := List.mem_map.mp hx
        have := ho _ h1
        simp only at this
        subst this
        rw [if_pos rfl] at h2
        rw [← h2], by simp [hl], fun i M h1 h2 h3 => by
        rcases Nat.lt_or_ge i k with q | q
        · rw [List.getElem?_append_left (by omega)]
          exact hg i M q h2 h3
        · have : i = k := by omega
          subst this
          rw [List.getElem?_append_right (by omega), hl, Nat.sub_self, hy (by rw [← hLk]; exact h2) M h3]
          rfl, rfl⟩
    refine ⟨_, gd_tup2 (gd_name (gd_name ?_))⟩
    refine so_if ?_
    walk_at "pd"
    refine ⟨fun z => ?_, fun z => ?_⟩
    · refine so_app (i := 4) rfl hp.1 (fun es m => by rw [hp.2 es m]; omega) ?_
      walk_at "pd"
      exact ⟨_, rfl, more .non fun z2 => by subst z2; cases z⟩
    · have bt : b = true := by simpa using z
      subst bt
      refine so_if ?_
      walk_at "pd"
      refine ⟨fun z => ?_, fun z => ?_⟩
      · have zk : k < gs.length := by have := of_decide_eq_true z; omega
        obtain ⟨x, hx⟩ : ∃ x, gs[k]? = some x := ⟨_, List.getElem?_eq_getElem zk⟩
        obtain ⟨f1, f2, f3, f4⟩ := hS.giv k x hx
        refine so_app (i := 4) rfl hp.1 (fun es m => by rw [hp.2 es m]; omega) ?_
        walk_at "pd"
        (refine ev_meth ?_; refine ev_var rfl ?_; refine ⟨_, _, rfl, by decide, ?_⟩)
        walk_at "pd"
        refine ev_fld ?_
        refine ev_var rfl ?_
        refine ⟨_, _, _, _, rfl, T.k_Script.o.cl, T.na_Script_grids, rfl, ?_⟩
        walk_at "pd"
        refine rd_ixT (j := k) (by omega) (by rw [List.getElem?_map, hx]; rfl) ?_
        walk_at "pd"
        refine ⟨v, k, _, x.2, rfl, f2, f3, f4, ?_⟩
        walk_at "pd"
        obtain ⟨sh, hsh⟩ : ∃ sh, r[k]? = some sh := ⟨_, List.getElem?_eq_getElem (by rw [hS.lr]; omega)⟩
        obtain ⟨u1, u2, _, d1, d2, d3, _⟩ := hS.dim k _ sh f1 hsh
        exact ⟨_, rfl, more _ fun _ M hM => by rw [f1] at hM; cases hM; rfl⟩
      · have zk : gs.length ≤ k := by have := of_decide_eq_false z; omega
        obtain ⟨s0, hs0⟩ : ∃ s0, sts[k - gs.length]? = some s0 := ⟨_, List.getElem?_eq_getElem (by omega)⟩
        obtain ⟨M0, hF0, hM0⟩ := hS.mks _ _ hs0
        have ek : gs.length + (k - gs.length) = k := by omega
        rw [ek] at hF0 hM0
        have hM1 : MkX (al_Outcomes v) (fun c => if c < k ∧ L.getD c false = true then F[c]? else none) s0.1 s0.2 M0 := mkx_mono hM0 fun c A hm hA => by
          have wc := hc k ka hLk s0 hs0 zk _ hm
          by_cases q : c < k
          · rw [if_pos q] at hA
            rw [if_pos ⟨q, by simpa using wc⟩]
            exact hA
          · rw [if_neg q] at hA
            cases hA
        have hG : AtX (fun c => if c < k ∧ L.getD c false = true then F[c]? else none) gl := fun c A hA => by
          have hA : (if c < k ∧ L.getD c false = true then F[c]? else none) = some A := hA
          by_cases q : c < k ∧ L.getD c false = true
          · rw [if_pos q] at hA
            exact hg c A q.1 q.2 hA
          · rw [if_neg q] at hA
            cases hA
        obtain ⟨sh, hsh⟩ : ∃ sh, r[k]? = some sh := ⟨_, List.getElem?_eq_getElem (by rw [hS.lr]; omega)⟩
        obtain ⟨u1, u2, _, d1, d2, d3, _⟩ := hS.dim k _ sh hF0 hsh
        have fl := fullX d1 d2 d3
        obtain ⟨c0, X0, mc, gc⟩ := mkx_first hM1
        have gl0 := hG c0 X0 gc
        have gc2 : F[c0]? = some X0 := by
          have gc : (if c0 < k ∧ L.getD c0 false = true then F[c0]? else none) = some X0 := gc
          by_cases q : c0 < k ∧ L.getD c0 false = true
          · rw [if_pos q] at gc
            exact gc
          · rw [if_neg q] at gc
            cases gc
        obtain ⟨sh', hsh'⟩ : ∃ sh', r[c0]? = some sh' := ⟨_, List.getElem?_eq_getElem (by rw [hS.lr, ← hS.len]; exact (List.getElem?_eq_some_iff.mp gc2).1)⟩
        obtain ⟨u1', u2', _, d1', d2', d3', _⟩ := hS.dim c0 _ sh' gc2 hsh'
        obtain ⟨r0, N0, rfl⟩ : ∃ r0 N0, X0 = r0 :: N0 := by
          cases X0 with
          | nil => exact absurd rfl (fullX d1' d2' d3').1
          | cons r0 N0 => exact ⟨r0, N0, rfl⟩
        refine so_appX (i := 4) (j := c0) rfl hp ho (by omega) gl0 (evl_put (a := p) 4 rfl hp.1 (evl_ev ?_))
        (refine ev_meth ?_; refine ev_var rfl ?_; refine ⟨_, _, rfl, by decide, ?_⟩)
        walk_at "pd"
        refine ev_fld ?_
        refine ev_var rfl ?_
        refine ⟨_, _, _, _, rfl, T.k_Script.o.cl, T.na_Script_steps, rfl, ?_⟩
        walk_at "pd"
        refine rd_ixT (j := k - gs.length) (by omega) (by rw [List.getElem?_map, hs0]; rfl) ?_
        walk_at "pd"
        refine ⟨v, _, s0.1, s0.2, M0, gl, rfl, hG, hM1, M0, rfl, hcf M0 (List.mem_of_getElem? hF0), more _ fun _ M hM => by rw [hF0] at hM; cases hM; rfl⟩
  · obtain ⟨gl, x5, x6, hp, ho, hl, hg, rfl⟩ := hI
    rw [enumD_length, List.length_map, lL] at hg
    exact so_retO (i := 4) rfl hp.1 (hP gl fun i M h1 h2 h3 => hg i M (by omega) h2 h3)
def F_Cells_grids_to {K : PySem.W.Frag} {mg : Str → Option Value} (T : Txt K mg) : FD := fun ds P => ∃ (v : V_Outcomes) (gs : List (D × List (List D))) (sts : List (Str × List Int)) (F : List GX) (r : List Sh) (a : Nat) (M : GX), ds = [self_Outcomes T.k_Outcomes.C v, scF T.k_Script.C T.k_Grid.C gs sts r, .int (a : Int)] ∧ ScX (al_Outcomes v) T.k_Grid.C gs sts F r ∧ (∀ M ∈ F, ∀ row ∈ M, ∀ c ∈ row, cellF c = true) ∧ F[a]? = some M ∧ ∀ l : List D, l[a]? = some (gridX M) → P (.lst l)
theorem len_Cells_grids_to {K : PySem.W.Frag} {mg : Str → Option Value} (T : Txt K mg) : ∀ ds P, (F_Cells_grids_to T) ds P → ds.length = 3 := by (intro ds P h; first | exact h | (obtain ⟨_, rfl, _⟩ := h; rfl) | (obtain ⟨_, _, rfl, _⟩ := h; rfl) | (obtain ⟨_, _, _, rfl, _⟩ := h; rfl) | (obtain ⟨_, _, _, _, rfl, _⟩ := h; rfl) | (obtain ⟨_, _, _, _, _, rfl, _⟩ := h; rfl) | (obtain ⟨_, _, _, _, _, _, rfl, _⟩ := h; rfl) | (obtain ⟨_, _, _, _, _, _, _, rfl, _⟩ := h; rfl) | (obtain ⟨_, _, _, _, _, _, _, _, rfl, _⟩ := h; rfl) | (obtain ⟨_, _, _, _, _, _, _, _, _, rfl, _⟩ := h; rfl) | (obtain ⟨_, _, _, _, _, _, _, _, _, _, rfl, _⟩ := h; rfl) | (obtain ⟨_, _, _, _, _, _, _, _, _, _, _, rfl, _⟩ := h; rfl) | (obtain ⟨_, _, _, _, _, _, _, _, _, _, _, _, rfl, _⟩ := h; rfl) | (obtain ⟨_, _, _, _, _, _, _, _, _, _, _, _, _, rfl, _⟩ := h; rfl) | (obtain ⟨_, _, _, _, _, _, _, _, _, _, _, _, _, rfl, _⟩ := h; rfl) | (obtain ⟨_, _, _, _, _, _, _, _, _, _, _, _, _, _, rfl, _⟩ := h; rfl) | (obtain ⟨_, _, _, _, _, _, _, _, _, _, _, _, _, _, _, rfl, _⟩ := h; rfl) | (obtain ⟨_, _, _, _, _, _, _, _, _, _, _, _, _, _, _, _, rfl, _⟩ := h; rfl) | (obtain ⟨_, _, _, _, _, _, _, _, _, _, _, _, _, _, _, _, _, rfl, _⟩ := h; rfl) | (obtain ⟨_, _, _, _, _, _, _, _, _, _, _, _, _, _, _, _, _, _, rfl, _⟩ := h; rfl) | (obtain ⟨_, _, _, _, _, _, _, _, _, _, _, _, _, _, _, _, _, _, _, rfl, _⟩ := h; rfl) | (obtain ⟨_, _, _, _, _, _, _, _, _, _, _, _, _, _, _, _, _, _, _, _, rfl, _⟩ := h; rfl) | (obtain ⟨_, _, _, _, _, _, _, _, _, _, _, _, _, _, _, _, _, _, _, _, _, rfl, _⟩ := h; rfl) | (obtain ⟨rfl, _⟩ := h; rfl))
theorem ok_Cells_grids_to (T : Txt K mg) : FnOk Pg T.w0 K mg base CX0 8 T.D_Cells_grids_to.f T.D_Cells_grids_to.d ["self", "script", "at"] ((spD K (F_Cells_grids_to T))) := by
  have G_Cells_grids_of := ok_Cells_grids_of (Pg := Pg) (base := base) T
  have G_leading := ok_leading (Pg := Pg) (base := base) T
  refine T.D_Cells_grids_to.F.ok (k := 7) sc_Cells_grids_to (spD_len (len_Cells_grids_to T)) (fun cdv A outer s H vs Q E hr h => ?_)
  refine ⟨_, (pss_one (ps_ret (pe_meth (pv 0) T.k_Outcomes.o.cl T.mt_Outcomes_grids_of G_Cells_grids_of (hr.mono (by decide)) T.D_Cells_grids_of.b .nil pass0 (pa_cons (pv 1) (pa_cons (pe_call G_leading (hr.mono (by decide)) (by rfl) T.D_leading.g T.D_leading.F.kp T.D_leading.b .nil pass0 (pa_cons (pv 1) (pa_cons (pv 2) pa_nil))) pa_nil))))), ?_⟩
  try dsimp only [cxOf, Cx.blk, Cx.nox, Cx.wish]
  (refine body_of h fun W ds P eK f => ?_); subst eK
  obtain ⟨v, gs, sts, F, r, a, M, rfl, hS, hcf, hF, hP⟩ := f
  have al : a < gs.length + sts.length := by rw [← hS.len]; exact (List.getElem?_eq_some_iff.mp hF).1
  walk_at "pd"
  (refine ev_meth ?_; refine ev_var rfl ?_; refine ⟨_, _, rfl, by decide, ?_⟩)
  walk_at "pd"
  refine ⟨gs, sts, r, a, rfl, hS.src, al, fun L lL ha hc => ?_⟩
  walk_at "pd"
  exact ⟨v, gs, sts, F, r, a, L, rfl, hS, hcf, al, lL, hc, fun l hl => hP l (hl a M (Nat.le_refl a) ha hF)⟩
def F_outcome {K : PySem.W.Frag} {mg : Str → Option Value} (T : Txt K mg) : FX := fun ds P _ => ∃ (n : Int) (v : V_Outcomes) (gs : List (D × List (List D))) (sts : List (Str × List Int)) (F : List GX) (r : List Sh) (a : Nat) (M : GX), ds = [scF T.k_Script.C T.k_Grid.C gs sts r, numsD v, .int (a : Int)] ∧ ScX (al_Outcomes v) T.k_Grid.C gs sts F r ∧ (∀ M ∈ F, ∀ row ∈ M, ∀ c ∈ row, cellF c = true) ∧ ChP T.k_Grid.C n 134 (gs.map (gridD T.k_Grid.C)) (v.map gridV) ∧ F[a]? = some M ∧ P (tupX M)
theorem len_outcome {K : PySem.W.Frag} {mg : Str → Option Value} (T : Txt K mg) : ∀ ds P X, (F_outcome T) ds P X → ds.length = 3 := by (intro ds P X h; first | exact h | (obtain ⟨_, rfl, _⟩ := h; rfl) | (obtain ⟨_, _, rfl, _⟩ := h; rfl) | (obtain ⟨_, _, _, rfl, _⟩ := h; rfl) | (obtain ⟨_, _, _, _, rfl, _⟩ := h; rfl) | (obtain ⟨_, _, _, _, _, rfl, _⟩ := h; rfl) | (obtain ⟨_, _, _, _, _, _, rfl, _⟩ := h; rfl) | (obtain ⟨_, _, _, _, _, _, _, rfl, _⟩ := h; rfl) | (obtain ⟨_, _, _, _, _, _, _, _, rfl, _⟩ := h; rfl) | (obtain ⟨_, _, _, _, _, _, _, _, _, rfl, _⟩ := h; rfl) | (obtain ⟨_, _, _, _, _, _, _, _, _, _, rfl, _⟩ := h; rfl) | (obtain ⟨_, _, _, _, _, _, _, _, _, _, _, rfl, _⟩ := h; rfl) | (obtain ⟨_, _, _, _, _, _, _, _, _, _, _, _, rfl, _⟩ := h; rfl) | (obtain ⟨_, _, _, _, _, _, _, _, _, _, _, _, _, rfl, _⟩ := h; rfl) | (obtain ⟨_, _, _, _, _, _, _, _, _, _, _, _, _, _, rfl, _⟩ := h; rfl) | (obtain ⟨_, _, _, _, _, _, _, _, _, _, _, _, _, _, _, rfl, _⟩ := h; rfl) | (obtain ⟨_, _, _, _, _, _, _, _, _, _, _, _, _, _, _, _, rfl, _⟩ := h; rfl) | (obtain ⟨_, _, _, _, _, _, _, _, _, _, _, _, _, _, _, _, _, rfl, _⟩ := h; rfl) | (obtain ⟨_, _, _, _, _, _, _, _, _, _, _, _, _, _, _, _, _, _, rfl, _⟩ := h; rfl) | (obtain ⟨_, _, _, _, _, _, _, _, _, _, _, _, _, _, _, _, _, _, _, rfl, _⟩ := h; rfl) | (obtain ⟨_, _, _, _, _, _, _, _, _, _, _, _, _, _, _, _, _, _, _, _, rfl, _⟩ := h; rfl) | (obtain ⟨_, _, _, _, _, _, _, _, _, _, _, _, _, _, _, _, _, _, _, _, _, rfl, _⟩ := h; rfl) | (obtain ⟨rfl, _⟩ := h; rfl))
theorem ok_outcome (T : Txt K mg) : FnOk Pg T.w0 K mg base (L2.CX Pg T.w0) 9 T.D_outcome.f T.D_outcome.d ["script", "values", "at"] ((spX K (F_outcome T))) := by
  have G_Cells_grids_to := ok_Cells_grids_to (Pg := Pg) (base := base) T
  have G_GridError___init__ := ok_GridError___init__ (Pg := Pg) (base := base) T
  have G_Outcomes___init__ := ok_Outcomes___init__ (Pg := Pg) (base := base) T
  have G_are_all_values := ok_are_all_values (Pg := Pg) (base := base) T
  have G_check_grid := ok_check_grid (Pg := Pg) (base := base) T
  refine T.D_outcome.F.okX (k := 8) sc_outcome (spX_len (len_outcome T)) (fun cdv A outer s H vs Q E hr h => ?_)
  refine ⟨_, (pss_cons (ps_if (pt_not (pt_val (pe_call G_are_all_values (hr.mono (by decide)) (by rfl) T.D_are_all_values.g T.D_are_all_values.F.kp T.D_are_all_values.b .nil pass0 (pa_cons (pv 0) (pa_cons (pv 1) pa_nil)))))
      (pss_one (ps_raise rfl (takes_of rfl rfl rfl rfl) (pmk_oe0 T.x_NoValues.o T.x_NoValues.i T.ty_GridError___init__ G_GridError___init__ (hr.mono (by decide)) T.D_GridError___init__.b pass0 (by rfl) T.x_NoValues.g)))
      pss_nil)
    (pss_cons (ps_expr (pe_callS G_check_grid (hr.mono (by decide)) (by rfl) T.D_check_grid.g T.D_check_grid.F.kp T.D_check_grid.b (fun σ => passAt (takes_of rfl rfl rfl rfl) σ) (pa_cons (pv 0) (pa_cons (pv 2) pa_nil))))
    (pss_one (ps_ret (pe_callTy (call_tuple_ofK (K := K) rfl) (by rfl) T.n_tuple (by decide +kernel) (pa_cons (pe_lc (own := [("row", 3)]) rfl sc_outcome.nd (pi_seqK (K := K) rfl (pe_ix (ix_seqK (K := K) rfl) (pe_meth (pe_make T.k_Outcomes.m G_Outcomes___init__ (hr.mono (by decide)) (by rfl) T.k_Outcomes.g T.D_Outcomes___init__.b .nil pass0 (pa_cons (pv 1) pa_nil)) T.k_Outcomes.o.cl T.mt_Outcomes_grids_to G_Cells_grids_to (hr.mono (by decide)) T.D_Cells_grids_to.b .nil pass0 (pa_cons (pv 0) (pa_cons (pv 2) pa_nil))) (pv 2) (fun _ _ => rfl))) (blkOk_by (N := ["script", "values", "at", "row"]) (sc := defScope s_outcome) (by decide +kernel)) (fun _ _ _ _ _ => (pg_name (i := 3) sc_outcome.nd rfl (by first | exact Or.inl rfl | exact Or.inr rfl))) (fun _ _ _ _ _ => pts_nil) (fun _ _ _ _ _ => (pe_callTy (call_tuple_ofK (K := K) rfl) (by rfl) T.n_tuple (by decide +kernel) (pa_cons (pv 3) pa_nil)))) pa_nil)))))), ?_⟩
  try dsimp only [cxOf, Cx.blk, Cx.nox, Cx.wish]
  (refine body_ofX h fun W ds P X eK f => ?_); subst eK
  obtain ⟨n, v, gs, sts, F, r, a, M, rfl, hS, hcf, hC, hF, hP⟩ := f
  have few := hS.few
  have al : a < F.length := (List.getElem?_eq_some_iff.mp hF).1
  have ix : isIx r.length (.int (a : Int)) = true := by
    unfold isIx
    simp only [Bool.and_eq_true, decide_eq_true_eq]
    rw [hS.lr, ← hS.len]
    exact ⟨⟨rfl, by show 0 ≤ (a : Int); omega⟩, by show (a : Int) < F.length; omega⟩
  unfold scF
  walk_at "pd"
  refine ⟨n, 134, gs.map (gridD T.k_Grid.C), v.map gridV, _, r, rfl, hC, by rw [List.length_map]; omega, by decide, ?_⟩
  walk_at "pd"
  refine ⟨_, _, _, r, rfl, by trivial, fun _ => ?_, fun z => by rw [ix] at z; cases z⟩
  walk_at "pd"
  refine ev_lcM M .lst .tup (it_seqL ?_)
  walk_at "pd"
  refine ev_meth ?_
  refine ev_makeE ?_
  walk_at "pd"
  refine ⟨rfl, v, rfl, _, _, rfl, by decide, ?_⟩
  walk_at "pd"
  refine ⟨v, gs, sts, F, r, a, M, rfl, hS, hcf, hF, fun l hl => ?_⟩
  walk_at "pd"
  refine rd_ixL (j := a) (by omega) hl ?_
  obtain ⟨p, hp⟩ : ∃ p, r[a]? = some p := ⟨_, List.getElem?_eq_getElem (by rw [hS.lr, ← hS.len]; exact al)⟩
  obtain ⟨b, c, _, d, _, _, _, _⟩ := hS.dim a M p hF hp
  have dl := d.1
  refine ⟨_, rfl, rfl, by omega, fun i row hi => ⟨_, by simp, gd_name ?_⟩, ?_⟩
  · walk_at "pd"
    rfl
  · walk_at "pd"
    exact hP
def F__law_is_fraction : FD := fun ds P => ∃ q : Fr, ds = [fr q] ∧ P (.bl true)
theorem len__law_is_fraction : ∀ ds P, F__law_is_fraction ds P → ds.length = 1 := by (intro ds P h; first | exact h | (obtain ⟨_, rfl, _⟩ := h; rfl) | (obtain ⟨_, _, rfl, _⟩ := h; rfl) | (obtain ⟨_, _, _, rfl, _⟩ := h; rfl) | (obtain ⟨_, _, _, _, rfl, _⟩ := h; rfl) | (obtain ⟨_, _, _, _, _, rfl, _⟩ := h; rfl) | (obtain ⟨_, _, _, _, _, _, rfl, _⟩ := h; rfl) | (obtain ⟨_, _, _, _, _, _, _, rfl, _⟩ := h; rfl) | (obtain ⟨_, _, _, _, _, _, _, _, rfl, _⟩ := h; rfl) | (obtain ⟨_, _, _, _, _, _, _, _, _, rfl, _⟩ := h; rfl) | (obtain ⟨_, _, _, _, _, _, _, _, _, _, rfl, _⟩ := h; rfl) | (obtain ⟨_, _, _, _, _, _, _, _, _, _, _, rfl, _⟩ := h; rfl) | (obtain ⟨_, _, _, _, _, _, _, _, _, _, _, _, rfl, _⟩ := h; rfl) | (obtain ⟨_, _, _, _, _, _, _, _, _, _, _, _, _, rfl, _⟩ := h; rfl) | (obtain ⟨_, _, _, _, _, _, _, _, _, _, _, _, _, rfl, _⟩ := h; rfl) | (obtain ⟨_, _, _, _, _, _, _, _, _, _, _, _, _, _, rfl, _⟩ := h; rfl) | (obtain ⟨_, _, _, _, _, _, _, _, _, _, _, _, _, _, _, rfl, _⟩ := h; rfl) | (obtain ⟨_, _, _, _, _, _, _, _, _, _, _, _, _, _, _, _, rfl, _⟩ := h; rfl) | (obtain ⟨_, _, _, _, _, _, _, _, _, _, _, _, _, _, _, _, _, rfl, _⟩ := h; rfl) | (obtain ⟨_, _, _, _, _, _, _, _, _, _, _, _, _, _, _, _, _, _, rfl, _⟩ := h; rfl) | (obtain ⟨_, _, _, _, _, _, _, _, _, _, _, _, _, _, _, _, _, _, _, rfl, _⟩ := h; rfl) | (obtain ⟨_, _, _, _, _, _, _, _, _, _, _, _, _, _, _, _, _, _, _, _, rfl, _⟩ := h; rfl) | (obtain ⟨_, _, _, _, _, _, _, _, _, _, _, _, _, _, _, _, _, _, _, _, _, rfl, _⟩ := h; rfl) | (obtain ⟨rfl, _⟩ := h; rfl))
theorem ok__law_is_fraction (T : Txt K mg) : FnOk Pg T.w0 K mg base CX0 1 T.D__law_is_fraction.f T.D__law_is_fraction.d ["thing"] ((spD K F__law_is_fraction)) := by
  refine T.D__law_is_fraction.F.ok (k := 0) sc__law_is_fraction (spD_len (len__law_is_fraction)) (fun cdv A outer s H vs Q E hr h => ?_)
  refine ⟨_, (pss_cons (ps_if (PW.pt (pw_or (pt_not (pt_val (pe_callB (call_isiK' (K := K) rfl) (by rfl) T.n_isinstance (by decide +kernel) (pa_cons (pv 0) (pa_cons (pe_bltn (v := .ty "tuple") (u := .type "tuple") (by rfl) T.n_tuple (by decide +kernel) rfl) pa_nil))))) (pw_or1 (pt_cmpR (op_neDK (K := K) rfl (hr_u hr)) (pe_callB (call_lenK (K := K) rfl) (by rfl) T.n_len (by decide +kernel) (pa_cons (pv 0) pa_nil)) pe_int (nomark _)))))
      (pss_one (ps_ret pe_bl))
      pss_nil)
    (pss_cons (ps_for PassesOwn.never rfl (pi_seqK (K := K) rfl (pv 0)) (pg_name (i := 1) sc__law_is_fraction.nd rfl (by first | exact Or.inl rfl | exact Or.inr rfl))
      (pss_one (ps_if (PW.pt (pw_or (pt_not (pt_val (pe_callB (call_isiK' (K := K) rfl) (by rfl) T.n_isinstance (by decide +kernel) (pa_cons (pv 1) (pa_cons (pe_bltn (v := .ty "int") (u := .type "int") (by rfl) T.n_int (by decide +kernel) rfl) pa_nil))))) (pw_or1 (pt_val (pe_callB (call_isiK' (K := K) rfl) (by rfl) T.n_isinstance (by decide +kernel) (pa_cons (pv 1) (pa_cons (pe_bltn (v := .ty "bool") (u := .type "bool") (by rfl) T.n_bool (by decide +kernel) rfl) pa_nil)))))))
      (pss_one (ps_ret pe_bl))
      pss_nil)))
    (pss_one (ps_ret pe_bl)))), ?_⟩
  try dsimp only [cxOf, Cx.blk, Cx.nox, Cx.wish]
  (refine body_of h fun W ds P eK f => ?_); subst eK
  obtain ⟨q, rfl, hP⟩ := f
  walk_at "pd"
  refine sd_for (it_seqT (ev_var rfl ⟨[.int q.1, .int q.2], rfl, fun i δ => ∃ x1, δ = [some (fr q), x1], ⟨_, rfl⟩, fun i d δ hd hI => ?_, fun δ hI => ?_⟩))
  · obtain ⟨x1, rfl⟩ := hI
    have hm := List.mem_of_getElem? hd
    simp only [List.mem_cons, List.not_mem_nil, or_false] at hm
    have : ∃ k, d = .int k := by
      rcases hm with rfl | rfl <;> exact ⟨_, rfl⟩
    obtain ⟨k, rfl⟩ := this
    refine ⟨_, gd_name ?_⟩
    walk_at "pd"
    exact ⟨_, rfl⟩
  · obtain ⟨x1, rfl⟩ := hI
    walk_at "pd"
    exact hP
theorem tupX_fine {M : GX} (h : ∀ row ∈ M, ∀ c ∈ row, ∃ q : Fr, c = fr q) : (tupX M).fine = true := lays_fine (n := 3) (lays_tup fun r hr => by
  obtain ⟨row, hm, rfl⟩ := List.mem_map.mp hr
  exact lays_tup fun c hc => by
    obtain ⟨q, rfl⟩ := h row hm c hc
    rfl) (by decide)
def F__law_are_rows : FD := fun ds P => ∃ M : GX, ds = [tupX M, tupX M] ∧ (∀ row ∈ M, ∀ c ∈ row, ∃ q : Fr, c = fr q) ∧ P (.bl true)
theorem len__law_are_rows : ∀ ds P, F__law_are_rows ds P → ds.length = 2 := by (intro ds P h; first | exact h | (obtain ⟨_, rfl, _⟩ := h; rfl) | (obtain ⟨_, _, rfl, _⟩ := h; rfl) | (obtain ⟨_, _, _, rfl, _⟩ := h; rfl) | (obtain ⟨_, _, _, _, rfl, _⟩ := h; rfl) | (obtain ⟨_, _, _, _, _, rfl, _⟩ := h; rfl) | (obtain ⟨_, _, _, _, _, _, rfl, _⟩ := h; rfl) | (obtain ⟨_, _, _, _, _, _, _, rfl, _⟩ := h; rfl) | (obtain ⟨_, _, _, _, _, _, _, _, rfl, _⟩ := h; rfl) | (obtain ⟨_, _, _, _, _, _, _, _, _, rfl, _⟩ := h; rfl) | (obtain ⟨_, _, _, _, _, _, _, _, _, _, rfl, _⟩ := h; rfl) | (obtain ⟨_, _, _, _, _, _, _, _, _, _, _, rfl, _⟩ := h; rfl) | (obtain ⟨_, _, _, _, _, _, _, _, _, _, _, _, rfl, _⟩ := h; rfl) | (obtain ⟨_, _, _, _, _, _, _, _, _, _, _, _, _, rfl, _⟩ := h; rfl) | (obtain ⟨_, _, _, _, _, _, _, _, _, _, _, _, _, rfl, _⟩ := h; rfl) | (obtain ⟨_, _, _, _, _, _, _, _, _, _, _, _, _, _, rfl, _⟩ := h; rfl) | (obtain ⟨_, _, _, _, _, _, _, _, _, _, _, _, _, _, _, rfl, _⟩ := h; rfl) | (obtain ⟨_, _, _, _, _, _, _, _, _, _, _, _, _, _, _, _, rfl, _⟩ := h; rfl) | (obtain ⟨_, _, _, _, _, _, _, _, _, _, _, _, _, _, _, _, _, rfl, _⟩ := h; rfl) | (obtain ⟨_, _, _, _, _, _, _, _, _, _, _, _, _, _, _, _, _, _, rfl, _⟩ := h; rfl) | (obtain ⟨_, _, _, _, _, _, _, _, _, _, _, _, _, _, _, _, _, _, _, rfl, _⟩ := h; rfl) | (obtain ⟨_, _, _, _, _, _, _, _, _, _, _, _, _, _, _, _, _, _, _, _, rfl, _⟩ := h; rfl) | (obtain ⟨_, _, _, _, _, _, _, _, _, _, _, _, _, _, _, _, _, _, _, _, _, rfl, _⟩ := h; rfl) | (obtain ⟨rfl, _⟩ := h; rfl))
theorem ok__law_are_rows (T : Txt K mg) : FnOk Pg T.w0 K mg base CX0 2 T.D__law_are_rows.f T.D__law_are_rows.d ["thing", "due"] ((spD K F__law_are_rows)) := by
  have G__law_is_fraction := ok__law_is_fraction (Pg := Pg) (base := base) T
  refine T.D__law_are_rows.F.ok (k := 1) sc__law_are_rows (spD_len (len__law_are_rows)) (fun cdv A outer s H vs Q E hr h => ?_)
  refine ⟨_, (pss_cons (ps_if (PW.pt (pw_or (pt_not (pt_val (pe_callB (call_isiK' (K := K) rfl) (by rfl) T.n_isinstance (by decide +kernel) (pa_cons (pv 0) (pa_cons (pe_bltn (v := .ty "tuple") (u := .type "tuple") (by rfl) T.n_tuple (by decide +kernel) rfl) pa_nil))))) (pw_or1 (pt_cmpR (op_neDK (K := K) rfl (hr_u hr)) (pe_callB (call_lenK (K := K) rfl) (by rfl) T.n_len (by decide +kernel) (pa_cons (pv 0) pa_nil)) (pe_callB (call_lenK (K := K) rfl) (by rfl) T.n_len (by decide +kernel) (pa_cons (pv 1) pa_nil)) (nomark _)))))
      (pss_one (ps_ret pe_bl))
      pss_nil)
    (pss_cons (ps_for PassesOwn.never rfl (pi_zipAK (K := K) rfl (by rfl) T.n_zip (pa_cons (pv 0) (pa_cons (pv 1) pa_nil))) (by exact (pg_tupK (K := K) (n := 2) rfl rfl (pgs_cons (pg_name (i := 2) sc__law_are_rows.nd rfl (by first | exact Or.inl rfl | exact Or.inr rfl)) (pgs_cons (pg_name (i := 3) sc__law_are_rows.nd rfl (by first | exact Or.inl rfl | exact Or.inr rfl)) pgs_nil))))
      (pss_cons (ps_if (PW.pt (pw_or (pt_not (pt_val (pe_callB (call_isiK' (K := K) rfl) (by rfl) T.n_isinstance (by decide +kernel) (pa_cons (pv 2) (pa_cons (pe_bltn (v := .ty "tuple") (u := .type "tuple") (by rfl) T.n_tuple (by decide +kernel) rfl) pa_nil))))) (pw_or1 (pt_cmpR (op_neDK (K := K) rfl (hr_u hr)) (pe_callB (call_lenK (K := K) rfl) (by rfl) T.n_len (by decide +kernel) (pa_cons (pv 2) pa_nil)) (pe_callB (call_lenK (K := K) rfl) (by rfl) T.n_len (by decide +kernel) (pa_cons (pv 3) pa_nil)) (nomark _)))))
      (pss_one (ps_ret pe_bl))
      pss_nil)
    (pss_one (ps_for PassesOwn.never rfl (pi_seqK (K := K) rfl (pv 2)) (pg_name (i := 4) sc__law_are_rows.nd rfl (by first | exact Or.inl rfl | exact Or.inr rfl))
      (pss_one (ps_if (pt_not (pt_val (pe_call G__law_is_fraction (hr.mono (by decide)) (by rfl) T.D__law_is_fraction.g T.D__law_is_fraction.F.kp T.D__law_is_fraction.b .nil pass0 (pa_cons (pv 4) pa_nil))))
      (pss_one (ps_ret pe_bl))
      pss_nil))))))
    (pss_one (ps_ret (pe_cmpR (op_eqDK (K := K) rfl (hr_u hr)) (pv 0) (pv 1) (nomark _)))))), ?_⟩
  try dsimp only [cxOf, Cx.blk, Cx.nox, Cx.wish]
  (refine body_of h fun W ds P eK f => ?_); subst eK
  obtain ⟨M, rfl, hM, hP⟩ := f
  have fine := tupX_fine hM
  unfold tupX at *
  walk_at "pd"
  refine ⟨fun z => ?_, fun _ => ?_⟩
  · exfalso
    simp at z
  walk_at "pd"
  refine sd_for (it_zipT ?_)
  walk_at "pd"
  refine ⟨_, _, rfl, fun i δ => ∃ x2 x3 x4, δ = [some (.tup (M.map .tup)), some (.tup (M.map .tup)), x2, x3, x4], ⟨_, _, _, rfl⟩, fun i d δ hd hI => ?_, fun δ hI => ?_⟩
  · obtain ⟨x2, x3, x4, rfl⟩ := hI
    obtain ⟨x, y, h1, h2, rfl⟩ := zipD_get hd
    rw [h1] at h2
    cases h2
    obtain ⟨row, hr, rfl⟩ := map_get h1
    refine ⟨_, gd_tup2 (gd_name (gd_name ?_))⟩
    walk_at "pd"
    refine ⟨fun z => ?_, fun _ => ?_⟩
    · exfalso
      simp at z
    walk_at "pd"
    refine sd_for (it_seqT (ev_var rfl ⟨row, rfl, fun i δ => ∃ x4, δ = [some (.tup (M.map .tup)), some (.tup (M.map .tup)), some (.tup row), some (.tup row), x4], ⟨_, rfl⟩, fun i d δ hd hI => ?_, fun δ hI => ?_⟩))
    · obtain ⟨x4, rfl⟩ := hI
      obtain ⟨q, rfl⟩ := hM row (List.mem_of_getElem? hr) d (List.mem_of_getElem? hd)
      refine ⟨_, gd_name ?_⟩
      walk_at "pd"
      refine ⟨q, rfl, ?_⟩
      walk_at "pd"
      exact ⟨_, rfl⟩
    · obtain ⟨x4, rfl⟩ := hI
      exact ⟨_, _, _, rfl⟩
  · obtain ⟨x2, x3, x4, rfl⟩ := hI
    walk_at "pd"
    refine rd_eqD fine fine ?_
    rw [D.eqv_self fine]
    exact hP
def F__law_source : FD := fun ds P => ∃ (k : Str) (l : List Int) (shs : List Sh) (i j : Int), ds = [stD k l, .lst (shs.map shD), .int i, .int j] ∧ kindLen.lookup k = some ((l.length : Int) + 1) ∧ k ≠ "plus" ∧ k ≠ "times" ∧ k ≠ "star" ∧ 0 ≤ l.getD 0 0 ∧ l.getD 0 0 < shs.length ∧ P (trI (srcI k l shs i j))
theorem len__law_source : ∀ ds P, F__law_source ds P → ds.length = 4 := by (intro ds P h; first | exact h | (obtain ⟨_, rfl, _⟩ := h; rfl) | (obtain ⟨_, _, rfl, _⟩ := h; rfl) | (obtain ⟨_, _, _, rfl, _⟩ := h; rfl) | (obtain ⟨_, _, _, _, rfl, _⟩ := h; rfl) | (obtain ⟨_, _, _, _, _, rfl, _⟩ := h; rfl) | (obtain ⟨_, _, _, _, _, _, rfl, _⟩ := h; rfl) | (obtain ⟨_, _, _, _, _, _, _, rfl, _⟩ := h; rfl) | (obtain ⟨_, _, _, _, _, _, _, _, rfl, _⟩ := h; rfl) | (obtain ⟨_, _, _, _, _, _, _, _, _, rfl, _⟩ := h; rfl) | (obtain ⟨_, _, _, _, _, _, _, _, _, _, rfl, _⟩ := h; rfl) | (obtain ⟨_, _, _, _, _, _, _, _, _, _, _, rfl, _⟩ := h; rfl) | (obtain ⟨_, _, _, _, _, _, _, _, _, _, _, _, rfl, _⟩ := h; rfl) | (obtain ⟨_, _, _, _, _, _, _, _, _, _, _, _, _, rfl, _⟩ := h; rfl) | (obtain ⟨_, _, _, _, _, _, _, _, _, _, _, _, _, rfl, _⟩ := h; rfl) | (obtain ⟨_, _, _, _, _, _, _, _, _, _, _, _, _, _, rfl, _⟩ := h; rfl) | (obtain ⟨_, _, _, _, _, _, _, _, _, _, _, _, _, _, _, rfl, _⟩ := h; rfl) | (obtain ⟨_, _, _, _, _, _, _, _, _, _, _, _, _, _, _, _, rfl, _⟩ := h; rfl) | (obtain ⟨_, _, _, _, _, _, _, _, _, _, _, _, _, _, _, _, _, rfl, _⟩ := h; rfl) | (obtain ⟨_, _, _, _, _, _, _, _, _, _, _, _, _, _, _, _, _, _, rfl, _⟩ := h; rfl) | (obtain ⟨_, _, _, _, _, _, _, _, _, _, _, _, _, _, _, _, _, _, _, rfl, _⟩ := h; rfl) | (obtain ⟨_, _, _, _, _, _, _, _, _, _, _, _, _, _, _, _, _, _, _, _, rfl, _⟩ := h; rfl) | (obtain ⟨_, _, _, _, _, _, _, _, _, _, _, _, _, _, _, _, _, _, _, _, _, rfl, _⟩ := h; rfl) | (obtain ⟨rfl, _⟩ := h; rfl))
theorem ok__law_source (T : Txt K mg) : FnOk Pg T.w0 K mg base CX0 1 T.D__law_source.f T.D__law_source.d ["step", "shapes", "i", "j"] ((spD K F__law_source)) := by
  refine T.D__law_source.F.ok (k := 0) sc__law_source (spD_len (len__law_source)) (fun cdv A outer s H vs Q E hr h => ?_)
  refine ⟨_, (pss_cons (ps_if (pt_cmpR (op_eqDK (K := K) rfl (hr_u hr)) (pe_ix (ix_seqK (K := K) rfl) (pv 0) pe_int (fun _ _ => rfl)) pe_str (nomark _))
      (pss_one (ps_ret (pe_tup (pa_cons (pe_ix (ix_seqK (K := K) rfl) (pv 0) pe_int (fun _ _ => rfl)) (pa_cons (pv 3) (pa_cons (pv 2) pa_nil))))))
      pss_nil)
    (pss_cons (ps_if (pt_cmpR (op_eqDK (K := K) rfl (hr_u hr)) (pe_ix (ix_seqK (K := K) rfl) (pv 0) pe_int (fun _ _ => rfl)) pe_str (nomark _))
      (pss_one (ps_ret (pe_tup (pa_cons (pe_ix (ix_seqK (K := K) rfl) (pv 0) pe_int (fun _ _ => rfl)) (pa_cons (pe_op (op_plusK (K := K) rfl) (pe_ix (ix_seqK (K := K) rfl) (pv 0) pe_int (fun _ _ => rfl)) (pv 2)) (pa_cons (pe_op (op_plusK (K := K) rfl) (pe_ix (ix_seqK (K := K) rfl) (pv 0) pe_int (fun _ _ => rfl)) (pv 3)) pa_nil))))))
      pss_nil)
    (pss_cons (ps_asg (pe_ix (ix_seqK (K := K) rfl) (pv 1) (pe_ix (ix_seqK (K := K) rfl) (pv 0) pe_int (fun _ _ => rfl)) (fun _ _ => rfl)) (by exact (pg_tupK (K := K) (n := 2) rfl rfl (pgs_cons (pg_name (i := 4) sc__law_source.nd rfl (by first | exact Or.inl rfl | exact Or.inr rfl)) (pgs_cons (pg_name (i := 5) sc__law_source.nd rfl (by first | exact Or.inl rfl | exact Or.inr rfl)) pgs_nil)))))
    (pss_cons (ps_if (pt_cmpR (op_eqDK (K := K) rfl (hr_u hr)) (pe_ix (ix_seqK (K := K) rfl) (pv 0) pe_int (fun _ _ => rfl)) pe_str (nomark _))
      (pss_one (ps_ret (pe_ifExp (pt_cmpR op_lt (pv 3) (pv 5) (nomark _)) (pe_tup (pa_cons (pe_ix (ix_seqK (K := K) rfl) (pv 0) pe_int (fun _ _ => rfl)) (pa_cons (pv 2) (pa_cons (pv 3) pa_nil)))) (pe_tup (pa_cons (pe_ix (ix_seqK (K := K) rfl) (pv 0) pe_int (fun _ _ => rfl)) (pa_cons (pv 2) (pa_cons (pe_op op_sub (pv 3) (pv 5)) pa_nil)))))))
      pss_nil)
    (pss_one (ps_ret (pe_ifExp (pt_cmpR op_lt (pv 2) (pv 4) (nomark _)) (pe_tup (pa_cons (pe_ix (ix_seqK (K := K) rfl) (pv 0) pe_int (fun _ _ => rfl)) (pa_cons (pv 2) (pa_cons (pv 3) pa_nil)))) (pe_tup (pa_cons (pe_ix (ix_seqK (K := K) rfl) (pv 0) pe_int (fun _ _ => rfl)) (pa_cons (pe_op op_sub (pv 2) (pv 4)) (pa_cons (pv 3) pa_nil))))))))))), ?_⟩
  try dsimp only [cxOf, Cx.blk, Cx.nox, Cx.wish]
  (refine body_of h fun W ds P eK f => ?_); subst eK
  obtain ⟨k, l, shs, i, j, rfl, hk, n1, n2, n3, l0, l1, hP⟩ := f
  obtain ⟨ga, gm⟩ := shAt_get l0 l1
  have two : (l.length : Int) + 1 = 3 → ∃ a b, l = [a, b] := fun h => by
    obtain _ | ⟨a, _ | ⟨b, _ | ⟨_, _⟩⟩⟩ := l <;> simp only [List.length_cons, List.length_nil] at h <;> first | omega | exact ⟨_, _, rfl⟩
  rcases kind_cases hk with ⟨rfl, e⟩ | ⟨rfl, e⟩ | ⟨rfl, e⟩ | ⟨rfl, e⟩ | ⟨rfl, e⟩ | ⟨rfl, e⟩ | ⟨rfl, e⟩
  · exact absurd rfl n1
  · exact absurd rfl n2
  · obtain ⟨a, rfl⟩ : ∃ a, l = [a] := by
      obtain _ | ⟨a, _ | ⟨b, _⟩⟩ := l <;> simp only [List.length_cons, List.length_nil] at e <;> first | omega | exact ⟨_, rfl⟩
    unfold stD
    walk_at "pd"
    exact hP
  · obtain ⟨a, b, rfl⟩ := two e
    unfold srcI at hP
    rw [if_neg (by decide), if_neg (by decide), if_pos rfl] at hP
    unfold stD
    walk_at "pd"
    refine sd_asgG (js := [4] ++ [5]) ?_
    simp only [List.map_cons, List.map_nil]
    walk_at "pd"
    refine rd_ixL (j := a.toNat) (by show a = _; have : (0 : Int) ≤ a := l0; omega) ga ?_
    unfold shD
    refine gd_tup2 (gd_name (gd_name ?_))
    walk_at "pd"
    refine ⟨fun z => ?_, fun z => ?_⟩
    · rw [if_pos (of_decide_eq_true z)] at hP
      walk_at "pd"
      exact hP
    · rw [if_neg (of_decide_eq_false z)] at hP
      walk_at "pd"
      refine rd_ixT (j := 2) rfl rfl ?_
      walk_at "pd"
      exact hP
  · obtain ⟨a, b, rfl⟩ := two e
    unfold srcI at hP
    rw [if_neg (by decide), if_neg (by decide), if_neg (by decide)] at hP
    unfold stD
    walk_at "pd"
    refine sd_asgG (js := [4] ++ [5]) ?_
    simp only [List.map_cons, List.map_nil]
    walk_at "pd"
    refine rd_ixL (j := a.toNat) (by show a = _; have : (0 : Int) ≤ a := l0; omega) ga ?_
    unfold shD
    refine gd_tup2 (gd_name (gd_name ?_))
    walk_at "pd"
    refine ⟨fun z => ?_, fun z => ?_⟩
    · rw [if_pos (of_decide_eq_true z)] at hP
      walk_at "pd"
      exact hP
    · rw [if_neg (of_decide_eq_false z)] at hP
      walk_at "pd"
      refine rd_ixT (j := 2) rfl rfl ?_
      walk_at "pd"
      exact hP
  · obtain ⟨a, b, c, d, e2, rfl⟩ : ∃ a i j r c, l = [a, i, j, r, c] := by
      have h := e
      obtain _ | ⟨a, _ | ⟨b, _ | ⟨c, _ | ⟨d, _ | ⟨e, _ | ⟨_, _⟩⟩⟩⟩⟩⟩ := l <;> simp only [List.length_cons, List.length_nil] at h <;> first | omega | exact ⟨_, _, _, _, _, rfl⟩
    unfold stD
    simp only [List.map_cons, List.map_nil]
    walk_at "pd"
    refine rd_ixT (j := 2) rfl rfl ?_
    walk_at "pd"
    refine rd_ixT (j := 3) rfl rfl ?_
    walk_at "pd"
    exact hP
  · exact absurd rfl n3
def F__law_plus : FD := fun ds P => ∃ (p q : Fr) (m n : Nat), ds = [fr p, fr q] ∧ 0 < p.2 ∧ 0 < q.2 ∧ Sz m p ∧ Sz n q ∧ m + n ≤ 8000 ∧ P (fr (addF p q))
theorem len__law_plus : ∀ ds P, F__law_plus ds P → ds.length = 2 := by (intro ds P h; first | exact h | (obtain ⟨_, rfl, _⟩ := h; rfl) | (obtain ⟨_, _, rfl, _⟩ := h; rfl) | (obtain ⟨_, _, _, rfl, _⟩ := h; rfl) | (obtain ⟨_, _, _, _, rfl, _⟩ := h; rfl) | (obtain ⟨_, _, _, _, _, rfl, _⟩ := h; rfl) | (obtain ⟨_, _, _, _, _, _, rfl, _⟩ := h; rfl) | (obtain ⟨_, _, _, _, _, _, _, rfl, _⟩ := h; rfl) | (obtain ⟨_, _, _, _, _, _, _, _, rfl, _⟩ := h; rfl) | (obtain ⟨_, _, _, _, _, _, _, _, _, rfl, _⟩ := h; rfl) | (obtain ⟨_, _, _, _, _, _, _, _, _, _, rfl, _⟩ := h; rfl) | (obtain ⟨_, _, _, _, _, _, _, _, _, _, _, rfl, _⟩ := h; rfl) | (obtain ⟨_, _, _, _, _, _, _, _, _, _, _, _, rfl, _⟩ := h; rfl) | (obtain ⟨_, _, _, _, _, _, _, _, _, _, _, _, _, rfl, _⟩ := h; rfl) | (obtain ⟨_, _, _, _, _, _, _, _, _, _, _, _, _, rfl, _⟩ := h; rfl) | (obtain ⟨_, _, _, _, _, _, _, _, _, _, _, _, _, _, rfl, _⟩ := h; rfl) | (obtain ⟨_, _, _, _, _, _, _, _, _, _, _, _, _, _, _, rfl, _⟩ := h; rfl) | (obtain ⟨_, _, _, _, _, _, _, _, _, _, _, _, _, _, _, _, rfl, _⟩ := h; rfl) | (obtain ⟨_, _, _, _, _, _, _, _, _, _, _, _, _, _, _, _, _, rfl, _⟩ := h; rfl) | (obtain ⟨_, _, _, _, _, _, _, _, _, _, _, _, _, _, _, _, _, _, rfl, _⟩ := h; rfl) | (obtain ⟨_, _, _, _, _, _, _, _, _, _, _, _, _, _, _, _, _, _, _, rfl, _⟩ := h; rfl) | (obtain ⟨_, _, _, _, _, _, _, _, _, _, _, _, _, _, _, _, _, _, _, _, rfl, _⟩ := h; rfl) | (obtain ⟨_, _, _, _, _, _, _, _, _, _, _, _, _, _, _, _, _, _, _, _, _, rfl, _⟩ := h; rfl) | (obtain ⟨rfl, _⟩ := h; rfl))
theorem ok__law_plus (T : Txt K mg) : FnOk Pg T.w0 K mg base CX0 2 T.D__law_plus.f T.D__law_plus.d ["one", "other"] ((spD K F__law_plus)) := by
  have G__law_lowest := ok__law_lowest (Pg := Pg) (base := base) T
  refine T.D__law_plus.F.ok (k := 1) sc__law_plus (spD_len (len__law_plus)) (fun cdv A outer s H vs Q E hr h => ?_)
  refine ⟨_, (pss_one (ps_ret (pe_call G__law_lowest (hr.mono (by decide)) (by rfl) T.D__law_lowest.g T.D__law_lowest.F.kp T.D__law_lowest.b .nil pass0 (pa_cons (pe_op (op_plusK (K := K) rfl) (pe_op op_mulW (pe_ix (ix_seqK (K := K) rfl) (pv 0) pe_int (fun _ _ => rfl)) (pe_ix (ix_seqK (K := K) rfl) (pv 1) pe_int (fun _ _ => rfl))) (pe_op op_mulW (pe_ix (ix_seqK (K := K) rfl) (pv 1) pe_int (fun _ _ => rfl)) (pe_ix (ix_seqK (K := K) rfl) (pv 0) pe_int (fun _ _ => rfl)))) (pa_cons (pe_op op_mulW (pe_ix (ix_seqK (K := K) rfl) (pv 0) pe_int (fun _ _ => rfl)) (pe_ix (ix_seqK (K := K) rfl) (pv 1) pe_int (fun _ _ => rfl))) pa_nil))))), ?_⟩
  try dsimp only [cxOf, Cx.blk, Cx.nox, Cx.wish]
  (refine body_of h fun W ds P eK f => ?_); subst eK
  obtain ⟨p, q, m, n, rfl, hp, hq, ⟨s1, s2⟩, ⟨s3, s4⟩, hmn, hP⟩ := f
  walk_at "pd"
  · exact mul_okN s1 s4 (by omega)
  · exact mul_okN s3 s2 (by omega)
  · exact mul_okN s2 s4 (by omega)
  · exact ⟨_, _, rfl, Int.mul_pos hp hq, lt_pow (mul_lt s2 s4) hmn, hP⟩
def F__law_times : FD := fun ds P => ∃ (p q : Fr) (m n : Nat), ds = [fr p, fr q] ∧ 0 < p.2 ∧ 0 < q.2 ∧ Sz m p ∧ Sz n q ∧ m + n ≤ 8000 ∧ P (fr (mulF p q))
theorem len__law_times : ∀ ds P, F__law_times ds P → ds.length = 2 := by (intro ds P h; first | exact h | (obtain ⟨_, rfl, _⟩ := h; rfl) | (obtain ⟨_, _, rfl, _⟩ := h; rfl) | (obtain ⟨_, _, _, rfl, _⟩ := h; rfl) | (obtain ⟨_, _, _, _, rfl, _⟩ := h; rfl) | (obtain ⟨_, _, _, _, _, rfl, _⟩ := h; rfl) | (obtain ⟨_, _, _, _, _, _, rfl, _⟩ := h; rfl) | (obtain ⟨_, _, _, _, _, _, _, rfl, _⟩ := h; rfl) | (obtain ⟨_, _, _, _, _, _, _, _, rfl, _⟩ := h; rfl) | (obtain ⟨_, _, _, _, _, _, _, _, _, rfl, _⟩ := h; rfl) | (obtain ⟨_, _, _, _, _, _, _, _, _, _, rfl, _⟩ := h; rfl) | (obtain ⟨_, _, _, _, _, _, _, _, _, _, _, rfl, _⟩ := h; rfl) | (obtain ⟨_, _, _, _, _, _, _, _, _, _, _, _, rfl, _⟩ := h; rfl) | (obtain ⟨_, _, _, _, _, _, _, _, _, _, _, _, _, rfl, _⟩ := h; rfl) | (obtain ⟨_, _, _, _, _, _, _, _, _, _, _, _, _, rfl, _⟩ := h; rfl) | (obtain ⟨_, _, _, _, _, _, _, _, _, _, _, _, _, _, rfl, _⟩ := h; rfl) | (obtain ⟨_, _, _, _, _, _, _, _, _, _, _, _, _, _, _, rfl, _⟩ := h; rfl) | (obtain ⟨_, _, _, _, _, _, _, _, _, _, _, _, _, _, _, _, rfl, _⟩ := h; rfl) | (obtain ⟨_, _, _, _, _, _, _, _, _, _, _, _, _, _, _, _, _, rfl, _⟩ := h; rfl) | (obtain ⟨_, _, _, _, _, _, _, _, _, _, _, _, _, _, _, _, _, _, rfl, _⟩ := h; rfl) | (obtain ⟨_, _, _, _, _, _, _, _, _, _, _, _, _, _, _, _, _, _, _, rfl, _⟩ := h; rfl) | (obtain ⟨_, _, _, _, _, _, _, _, _, _, _, _, _, _, _, _, _, _, _, _, rfl, _⟩ := h; rfl) | (obtain ⟨_, _, _, _, _, _, _, _, _, _, _, _, _, _, _, _, _, _, _, _, _, rfl, _⟩ := h; rfl) | (obtain ⟨rfl, _⟩ := h; rfl))
theorem ok__law_times (T : Txt K mg) : FnOk Pg T.w0 K mg base CX0 2 T.D__law_times.f T.D__law_times.d ["one", "other"] ((spD K F__law_times)) := by
  have G__law_lowest := ok__law_lowest (Pg := Pg) (base := base) T
  refine T.D__law_times.F.ok (k := 1) sc__law_times (spD_len (len__law_times)) (fun cdv A outer s H vs Q E hr h => ?_)
  refine ⟨_, (pss_one (ps_ret (pe_call G__law_lowest (hr.mono (by decide)) (by rfl) T.D__law_lowest.g T.D__law_lowest.F.kp T.D__law_lowest.b .nil pass0 (pa_cons (pe_op op_mulW (pe_ix (ix_seqK (K := K) rfl) (pv 0) pe_int (fun _ _ => rfl)) (pe_ix (ix_seqK (K := K) rfl) (pv 1) pe_int (fun _ _ => rfl))) (pa_cons (pe_op op_mulW (pe_ix (ix_seqK (K := K) rfl) (pv 0) pe_int (fun _ _ => rfl)) (pe_ix (ix_seqK (K := K) rfl) (pv 1) pe_int (fun _ _ => rfl))) pa_nil))))), ?_⟩
  try dsimp only [cxOf, Cx.blk, Cx.nox, Cx.wish]
  (refine body_of h fun W ds P eK f => ?_); subst eK
  obtain ⟨p, q, m, n, rfl, hp, hq, ⟨s1, s2⟩, ⟨s3, s4⟩, hmn, hP⟩ := f
  walk_at "pd"
  · exact mul_okN s1 s3 (by omega)
  · exact mul_okN s2 s4 (by omega)
  · exact ⟨_, _, rfl, Int.mul_pos hp hq, lt_pow (mul_lt s2 s4) hmn, hP⟩
theorem atX_sums {A : Al} {X Y : GX} {r c i j : Nat} (d : DimX X r c) (d' : DimX Y r c) (hi : i < r) (hj : j < c) : atX (A.sums X Y) i j = A.pl (atX X i j) (atX Y i j) := by
  obtain ⟨a1, a2, _, _⟩ := atX_get d hi hj
  obtain ⟨b1, b2, _, _⟩ := atX_get d' hi hj
  obtain ⟨c1, c2, _, _⟩ := atX_get (d.sums (A := A) d') hi hj
  unfold Al.sums at c1
  rw [List.getElem?_zipWith, a1, b1] at c1
  have e := Option.some.inj c1
  unfold Al.sums at c2
  rw [← e, List.getElem?_zipWith, a2, b2] at c2
  exact (Option.some.inj c2).symm
theorem atX_prod {A : Al} {X Y : GX} {r m c i j : Nat} (d : DimX X r m) (d' : DimX Y m c) (hi : i < r) (hj : j < c) : atX (A.prod X Y c) i j = A.inn (X.getD i []) (Y.map fun row => row.getD j .non) := by
  obtain ⟨c1, c2, _, _⟩ := atX_get (d.prod (A := A) (Y := Y) (c := c)) hi hj
  have h1 : i < X.length := by rw [d.1]; exact hi
  have e1 : X[i]? = some (X.getD i []) := by rw [List.getD_eq_getElem?_getD, List.getElem?_eq_getElem h1]; rfl
  unfold Al.prod at c1
  rw [List.getElem?_map, e1] at c1
  have e := Option.some.inj c1
  unfold Al.prod at c2
  rw [← e, List.getElem?_map] at c2
  unfold colsX at c2
  rw [List.getElem?_map, List.getElem?_range hj] at c2
  exact (Option.some.inj c2).symm
def F__law_cell_of : FD := fun ds P => ∃ (n t : Nat) (B V : Int) (v : V_Outcomes) (G : Nat → Option GX) (k : Str) (l : List Int) (M : GX) (shs : List Sh) (told : List D) (r c i j : Nat), ds = [stD k l, .lst (shs.map shD), .lst told, .int (i : Int), .int (j : Int)] ∧ BV n B V ∧ t < n ∧ (∀ a X, G a = some X → told[a]? = some (tupX X) ∧ CellsX (QV B V t) X) ∧ ShX G shs ∧ k ≠ "star" ∧ MkX (al_Outcomes v) G k l M ∧ DimX M r c ∧ i < r ∧ j < c ∧ P (atX M i j)
theorem len__law_cell_of : ∀ ds P, F__law_cell_of ds P → ds.length = 5 := by (intro ds P h; first | exact h | (obtain ⟨_, rfl, _⟩ := h; rfl) | (obtain ⟨_, _, rfl, _⟩ := h; rfl) | (obtain ⟨_, _, _, rfl, _⟩ := h; rfl) | (obtain ⟨_, _, _, _, rfl, _⟩ := h; rfl) | (obtain ⟨_, _, _, _, _, rfl, _⟩ := h; rfl) | (obtain ⟨_, _, _, _, _, _, rfl, _⟩ := h; rfl) | (obtain ⟨_, _, _, _, _, _, _, rfl, _⟩ := h; rfl) | (obtain ⟨_, _, _, _, _, _, _, _, rfl, _⟩ := h; rfl) | (obtain ⟨_, _, _, _, _, _, _, _, _, rfl, _⟩ := h; rfl) | (obtain ⟨_, _, _, _, _, _, _, _, _, _, rfl, _⟩ := h; rfl) | (obtain ⟨_, _, _, _, _, _, _, _, _, _, _, rfl, _⟩ := h; rfl) | (obtain ⟨_, _, _, _, _, _, _, _, _, _, _, _, rfl, _⟩ := h; rfl) | (obtain ⟨_, _, _, _, _, _, _, _, _, _, _, _, _, rfl, _⟩ := h; rfl) | (obtain ⟨_, _, _, _, _, _, _, _, _, _, _, _, _, rfl, _⟩ := h; rfl) | (obtain ⟨_, _, _, _, _, _, _, _, _, _, _, _, _, _, rfl, _⟩ := h; rfl) | (obtain ⟨_, _, _, _, _, _, _, _, _, _, _, _, _, _, _, rfl, _⟩ := h; rfl) | (obtain ⟨_, _, _, _, _, _, _, _, _, _, _, _, _, _, _, _, rfl, _⟩ := h; rfl) | (obtain ⟨_, _, _, _, _, _, _, _, _, _, _, _, _, _, _, _, _, rfl, _⟩ := h; rfl) | (obtain ⟨_, _, _, _, _, _, _, _, _, _, _, _, _, _, _, _, _, _, rfl, _⟩ := h; rfl) | (obtain ⟨_, _, _, _, _, _, _, _, _, _, _, _, _, _, _, _, _, _, _, rfl, _⟩ := h; rfl) | (obtain ⟨_, _, _, _, _, _, _, _, _, _, _, _, _, _, _, _, _, _, _, _, rfl, _⟩ := h; rfl) | (obtain ⟨_, _, _, _, _, _, _, _, _, _, _, _, _, _, _, _, _, _, _, _, _, rfl, _⟩ := h; rfl) | (obtain ⟨rfl, _⟩ := h; rfl))
theorem ok__law_cell_of (T : Txt K mg) : FnOk Pg T.w0 K mg base CX0 3 T.D__law_cell_of.f T.D__law_cell_of.d ["step", "shapes", "told", "i", "j"] ((spD K F__law_cell_of)) := by
  have G__law_plus := ok__law_plus (Pg := Pg) (base := base) T
  have G__law_source := ok__law_source (Pg := Pg) (base := base) T
  have G__law_times := ok__law_times (Pg := Pg) (base := base) T
  refine T.D__law_cell_of.F.ok (k := 2) sc__law_cell_of (spD_len (len__law_cell_of)) (fun cdv A outer s H vs Q E hr h => ?_)
  refine ⟨_, (pss_cons (ps_if (pt_cmpR (op_eqDK (K := K) rfl (hr_u hr)) (pe_ix (ix_seqK (K := K) rfl) (pv 0) pe_int (fun _ _ => rfl)) pe_str (nomark _))
      (pss_one (ps_ret (pe_call G__law_plus (hr.mono (by decide)) (by rfl) T.D__law_plus.g T.D__law_plus.F.kp T.D__law_plus.b .nil pass0 (pa_cons (pe_ix (ix_seqK (K := K) rfl) (pe_ix (ix_seqK (K := K) rfl) (pe_ix (ix_seqK (K := K) rfl) (pv 2) (pe_ix (ix_seqK (K := K) rfl) (pv 0) pe_int (fun _ _ => rfl)) (fun _ _ => rfl)) (pv 3) (fun _ _ => rfl)) (pv 4) (fun _ _ => rfl)) (pa_cons (pe_ix (ix_seqK (K := K) rfl) (pe_ix (ix_seqK (K := K) rfl) (pe_ix (ix_seqK (K := K) rfl) (pv 2) (pe_ix (ix_seqK (K := K) rfl) (pv 0) pe_int (fun _ _ => rfl)) (fun _ _ => rfl)) (pv 3) (fun _ _ => rfl)) (pv 4) (fun _ _ => rfl)) pa_nil)))))
      pss_nil)
    (pss_cons (ps_if (pt_cmpR (op_eqDK (K := K) rfl (hr_u hr)) (pe_ix (ix_seqK (K := K) rfl) (pv 0) pe_int (fun _ _ => rfl)) pe_str (nomark _))
      (pss_cons (ps_set (i := 5) sc__law_cell_of.nd rfl (by first | exact Or.inl rfl | exact Or.inr rfl) (pe_tup (pa_cons pe_int (pa_cons pe_int pa_nil))))
    (pss_cons (ps_for PassesOwn.never rfl (pi_range1 (by rfl) T.n_range (pa_cons (pe_ix (ix_seqK (K := K) rfl) (pe_ix (ix_seqK (K := K) rfl) (pv 1) (pe_ix (ix_seqK (K := K) rfl) (pv 0) pe_int (fun _ _ => rfl)) (fun _ _ => rfl)) pe_int (fun _ _ => rfl)) pa_nil)) (pg_name (i := 6) sc__law_cell_of.nd rfl (by first | exact Or.inl rfl | exact Or.inr rfl))
      (pss_one (ps_set (i := 5) sc__law_cell_of.nd rfl (by first | exact Or.inl rfl | exact Or.inr rfl) (pe_call G__law_plus (hr.mono (by decide)) (by rfl) T.D__law_plus.g T.D__law_plus.F.kp T.D__law_plus.b .nil pass0 (pa_cons (pv 5) (pa_cons (pe_call G__law_times (hr.mono (by decide)) (by rfl) T.D__law_times.g T.D__law_times.F.kp T.D__law_times.b .nil pass0 (pa_cons (pe_ix (ix_seqK (K := K) rfl) (pe_ix (ix_seqK (K := K) rfl) (pe_ix (ix_seqK (K := K) rfl) (pv 2) (pe_ix (ix_seqK (K := K) rfl) (pv 0) pe_int (fun _ _ => rfl)) (fun _ _ => rfl)) (pv 3) (fun _ _ => rfl)) (pv 6) (fun _ _ => rfl)) (pa_cons (pe_ix (ix_seqK (K := K) rfl) (pe_ix (ix_seqK (K := K) rfl) (pe_ix (ix_seqK (K := K) rfl) (pv 2) (pe_ix (ix_seqK (K := K) rfl) (pv 0) pe_int (fun _ _ => rfl)) (fun _ _ => rfl)) (pv 6) (fun _ _ => rfl)) (pv 4) (fun _ _ => rfl)) pa_nil))) pa_nil))))))
    (pss_one (ps_ret (pv 5)))))
      pss_nil)
    (pss_cons (ps_asg (pe_call G__law_source (hr.mono (by decide)) (by rfl) T.D__law_source.g T.D__law_source.F.kp T.D__law_source.b .nil pass0 (pa_cons (pv 0) (pa_cons (pv 1) (pa_cons (pv 3) (pa_cons (pv 4) pa_nil))))) (by exact (pg_tupK (K := K) (n := 3) rfl rfl (pgs_cons (pg_name (i := 7) sc__law_cell_of.nd rfl (by first | exact Or.inl rfl | exact Or.inr rfl)) (pgs_cons (pg_name (i := 8) sc__law_cell_of.nd rfl (by first | exact Or.inl rfl | exact Or.inr rfl)) (pgs_cons (pg_name (i := 9) sc__law_cell_of.nd rfl (by first | exact Or.inl rfl | exact Or.inr rfl)) pgs_nil))))))
    (pss_one (ps_ret (pe_ix (ix_seqK (K := K) rfl) (pe_ix (ix_seqK (K := K) rfl) (pe_ix (ix_seqK (K := K) rfl) (pv 2) (pv 7) (fun _ _ => rfl)) (pv 8) (fun _ _ => rfl)) (pv 9) (fun _ _ => rfl))))))), ?_⟩
  try dsimp only [cxOf, Cx.blk, Cx.nox, Cx.wish]
  (refine body_of h fun W ds P eK f => ?_); subst eK
  obtain ⟨n, t, B, V, v, G, k, l, M, shs, told, r, c, i, j, rfl, hB, tn, hT, hS, hs, hM, d, hi, hj, hP⟩ := f
  have hk := (mkx_src hM).1
  rcases kind_cases hk with ⟨rfl, e⟩ | ⟨rfl, e⟩ | ⟨rfl, e⟩ | ⟨rfl, e⟩ | ⟨rfl, e⟩ | ⟨rfl, e⟩ | ⟨rfl, e⟩
  · cases hM with
    | @plus a b r1 c1 X Y g g2 d1 d2 r12 c12 ok =>
      have dd := d1.sums (A := al_Outcomes v) d2
      obtain rfl : r1 = r := dd.1.symm.trans d.1
      obtain ⟨_, rfl⟩ := dd.same d (by omega)
      rw [atX_sums d1 d2 hi hj] at hP
      obtain ⟨t1, q1⟩ := hT a X g
      obtain ⟨t2, q2⟩ := hT b Y g2
      obtain ⟨a1, a2, a3, a4⟩ := atX_get d1 hi hj
      obtain ⟨b1, b2, b3, b4⟩ := atX_get d2 hi hj
      obtain ⟨p, ep, hp⟩ := q1 _ a3 _ a4
      obtain ⟨q, eq, hq⟩ := q2 _ b3 _ b4
      unfold stD
      walk_at "pd"
      refine rd_ixL (j := a) (by omega) t1 ?_
      walk_at "pd"
      refine rd_ixT (j := i) (by omega) (tupX_at d1 hi) ?_
      walk_at "pd"
      refine rd_ixT (j := j) (by omega) a2 ?_
      walk_at "pd"
      refine rd_ixT (j := 2) rfl rfl ?_
      refine rd_ixL (j := b) (by omega) t2 ?_
      walk_at "pd"
      refine rd_ixT (j := i) (by omega) (tupX_at d2 hi) ?_
      walk_at "pd"
      refine rd_ixT (j := j) (by omega) b2 ?_
      walk_at "pd"
      have hP : P (fr (addF p q)) := by
        rw [ep, eq] at hP
        exact hP
      rw [ep, eq]
      exact ⟨p, q, 2000, 2000, rfl, degQ hp, degQ hq, hB.sz (by omega) hp, hB.sz (by omega) hq, by decide, hP⟩
  · cases hM with
    | @times a b r1 m c1 X Y g g2 d1 d2 m1 r12 m12 c12 ok =>
      have dd := d1.prod (A := al_Outcomes v) (Y := Y) (c := c1)
      obtain rfl : r1 = r := dd.1.symm.trans d.1
      obtain ⟨_, rfl⟩ := dd.same d (by omega)
      rw [atX_prod d1 d2 hi hj] at hP
      obtain ⟨t1, q1⟩ := hT a X g
      obtain ⟨t2, q2⟩ := hT b Y g2
      have hx : i < X.length := by rw [d1.1]; exact hi
      have rm : X.getD i [] ∈ X := by
        rw [List.getD_eq_getElem?_getD, List.getElem?_eq_getElem hx]
        exact List.getElem_mem hx
      have lr := d1.row hi
      have lc : (Y.map fun row => row.getD j .non).length = m := by rw [List.length_map, d2.1]
      have colm : (Y.map fun row => row.getD j .non) ∈ colsX Y c := List.mem_map.mpr ⟨j, List.mem_range.mpr hj, rfl⟩
      obtain ⟨ps, e1, e2, hps⟩ := zip_pairs (by rw [lr, lc]) (q1 _ rm) (cells_cols d2 q2 _ colm)
      rw [e1, e2] at hP
      have hP : P (fr (sopF (pairsV (ps.map fun p => fr p.1) (ps.map fun p => fr p.2)))) := hP
      rw [pairs_of] at hP
      have lp : ps.length = m := by rw [← lr, e1, List.length_map]
      obtain ⟨sb, bl, _⟩ := hS.at g2 d2
      have part : ∀ k, DegF B V (2 ^ (t + 1)) (sopF (ps.take k)) := fun k => by
        rw [two_succ]
        exact deg_sopF hB.b1 hB.v2 (by rw [List.length_take]; omega) fun p hp => hps p (List.mem_of_mem_take hp)
      unfold stD
      walk_at "pd"
      refine sd_for (it_rng1 ?_)
      simp only [List.map_cons, List.map_nil]
      walk_at "pd"
      refine rd_ixT (j := 2) rfl rfl ?_
      obtain ⟨sg, _⟩ := shAt_get (Int.natCast_nonneg b) (show (b : Int) < shs.length by omega)
      rw [sb] at sg
      refine rd_ixL (j := (b : Int).toNat) (by omega) sg ?_
      unfold shD
      walk_at "pd"
      refine ⟨_, rfl, by omega, by omega, fun k δ => ∃ (x6 x7 x8 x9 : Option D), δ = [some (.tup [.str "times", .int a, .int b]), some (.lst (shs.map shD)), some (.lst told), some (.int i), some (.int j), some (fr (sopF (ps.take k))), x6, x7, x8, x9], ⟨_, _, _, _, rfl⟩, fun k d δ hd hI => ?_, fun δ hI => ?_⟩
      · obtain ⟨x6, x7, x8, x9, rfl⟩ := hI
        obtain ⟨hk, rfl⟩ := rngD_get hd
        have kl : k < ps.length := by omega
        have hp := List.getElem?_eq_getElem kl
        generalize ps[k] = p at hp
        have xk : (X.getD i [])[k]? = some (fr p.1) := by rw [e1, List.getElem?_map, hp]; rfl
        have yk : (Y.map fun row => row.getD j .non)[k]? = some (fr p.2) := by rw [e2, List.getElem?_map, hp]; rfl
        have ky : k < m := by omega
        obtain ⟨b1, b2, _, _⟩ := atX_get d2 ky hj
        rw [List.getElem?_map, b1] at yk
        have yk := Option.some.inj yk
        have b2 : (Y.getD k [])[j]? = some (fr p.2) := by rw [b2, ← yk]; rfl
        obtain ⟨f1, f2⟩ := hps p (List.mem_of_getElem? hp)
        refine ⟨_, gd_name ?_⟩
        walk_at "pd"
        refine rd_ixL (j := a) (by omega) t1 ?_
        walk_at "pd"
        refine rd_ixT (j := i) (by omega) (tupX_at d1 hi) ?_
        walk_at "pd"
        refine rd_ixT (j := k) (by omega) xk ?_
        walk_at "pd"
        refine rd_ixT (j := 2) rfl rfl ?_
        refine rd_ixL (j := b) (by omega) t2 ?_
        walk_at "pd"
        refine rd_ixT (j := k) (by omega) (tupX_at d2 ky) ?_
        walk_at "pd"
        refine rd_ixT (j := j) (by omega) b2 ?_
        walk_at "pd"
        have mF := isF_mul f1.f f2.f
        refine ⟨p.1, p.2, 2000, 2000, rfl, degQ f1, degQ f2, hB.sz (by omega) f1, hB.sz (by omega) f2, by decide, ?_⟩
        walk_at "pd"
        have s1 := hB.sz (by omega) f1
        have s2 := hB.sz (by omega) f2
        have sm := low_sz (mul_lt s1.1 s2.1) (mul_lt s1.2 s2.2)
        refine ⟨sopF (ps.take k), mulF p.1 p.2, 2000, 4000, rfl, degQ (part k), by have := mF.1; omega, hB.sz (by omega) (part k), sm, by decide, ?_⟩
        walk_at "pd"
        have e9 : sopF (ps.take (k + 1)) = addF (sopF (ps.take k)) (mulF p.1 p.2) := by
          rw [← take_snoc hp]
          unfold sopF
          rw [List.foldl_append]
          rfl
        simp only [e9]
        exact ⟨_, _, _, _, rfl⟩
      · obtain ⟨x6, x7, x8, x9, rfl⟩ := hI
        rw [rngD_length, show (((m : Int), (c : Int)) : Int × Int).1.toNat = ps.length from (Int.toNat_natCast m).trans lp.symm, List.take_length]
        walk_at "pd"
        exact hP
  case inr.inr.inr.inr.inr.inr => exact absurd rfl hs
  all_goals
    obtain ⟨l0, l1, x, y, z, r', c', X, es, g, dX, hy, hz, eX⟩ := mkx_cell hS hM (by decide) (by decide) (by decide) d hi hj
    obtain ⟨t1, q1⟩ := hT x X g
    obtain ⟨a1, a2, a3, a4⟩ := atX_get dX hy hz
    unfold stD
    walk_at "pd"
    refine sd_asgG (js := [7] ++ [8] ++ [9]) ?_
    walk_at "pd"
    refine ⟨_, l, shs, _, _, rfl, hk, by decide, by decide, by decide, l0, l1, ?_⟩
    rw [es]
    unfold trI
    refine gd_tup3 (gd_name (gd_name (gd_name ?_)))
    walk_at "pd"
    refine rd_ixL (j := x) rfl t1 ?_
    walk_at "pd"
    refine rd_ixT (j := y) rfl (tupX_at dX hy) ?_
    walk_at "pd"
    refine rd_ixT (j := z) rfl a2 ?_
    rw [← eX]
    exact hP
theorem eq_range {M : GX} {r c : Nat} (d : DimX M r c) : M = (List.range r).map fun i => (List.range c).map fun j => atX M i j := by
  apply List.ext_getElem?
  intro i
  rw [List.getElem?_map]
  rcases Nat.lt_or_ge i r with h | h
  · rw [List.getElem?_range h]
    have hm : i < M.length := by rw [d.1]; exact h
    have e1 : M[i]? = some (M.getD i []) := by rw [List.getD_eq_getElem?_getD, List.getElem?_eq_getElem hm]; rfl
    rw [e1]
    show some _ = some _
    congr 1
    apply List.ext_getElem?
    intro j
    rw [List.getElem?_map]
    rcases Nat.lt_or_ge j c with h2 | h2
    · rw [List.getElem?_range h2]
      exact (atX_get d h h2).2.1
    · rw [List.getElem?_eq_none (by rw [d.row h]; exact h2), List.getElem?_eq_none (l := List.range c) (by simpa using h2)]
      rfl
  · rw [List.getElem?_eq_none (by rw [d.1]; exact h), List.getElem?_eq_none (l := List.range r) (by simpa using h)]
    rfl
def F__law_due : FD := fun ds P => ∃ (n : Nat) (gs : List D) (sts : List (Str × List Int)) (r : List Sh) (v : V_Outcomes) (told : List D) (a m t R C : Nat) (B V : Int) (G : Nat → Option GX) (M : GX), ds = [worldD n gs (sts.map fun s => stD s.1 s.2) r, .tup (v.map gridV), .lst told, .int (a : Int)] ∧ DimX M R C ∧ R ≤ 12 ∧ C ≤ 12 ∧
  (a < gs.length → ∃ x, v[a]? = some x ∧ gridV x = tupX M) ∧ (gs.length ≤ a → r[a]? = some ((R : Int), (C : Int)) ∧ BV m B V ∧ t < m ∧ (∀ a X, G a = some X → told[a]? = some (tupX X) ∧ CellsX (QV B V t) X) ∧ ShX G r ∧ ∃ s, sts[a - gs.length]? = some s ∧ s.1 ≠ "star" ∧ MkX (al_Outcomes v) G s.1 s.2 M) ∧ P (tupX M)
theorem len__law_due : ∀ ds P, F__law_due ds P → ds.length = 4 := by (intro ds P h; first | exact h | (obtain ⟨_, rfl, _⟩ := h; rfl) | (obtain ⟨_, _, rfl, _⟩ := h; rfl) | (obtain ⟨_, _, _, rfl, _⟩ := h; rfl) | (obtain ⟨_, _, _, _, rfl, _⟩ := h; rfl) | (obtain ⟨_, _, _, _, _, rfl, _⟩ := h; rfl) | (obtain ⟨_, _, _, _, _, _, rfl, _⟩ := h; rfl) | (obtain ⟨_, _, _, _, _, _, _, rfl, _⟩ := h; rfl) | (obtain ⟨_, _, _, _, _, _, _, _, rfl, _⟩ := h; rfl) | (obtain ⟨_, _, _, _, _, _, _, _, _, rfl, _⟩ := h; rfl) | (obtain ⟨_, _, _, _, _, _, _, _, _, _, rfl, _⟩ := h; rfl) | (obtain ⟨_, _, _, _, _, _, _, _, _, _, _, rfl, _⟩ := h; rfl) | (obtain ⟨_, _, _, _, _, _, _, _, _, _, _, _, rfl, _⟩ := h; rfl) | (obtain ⟨_, _, _, _, _, _, _, _, _, _, _, _, _, rfl, _⟩ := h; rfl) | (obtain ⟨_, _, _, _, _, _, _, _, _, _, _, _, _, rfl, _⟩ := h; rfl) | (obtain ⟨_, _, _, _, _, _, _, _, _, _, _, _, _, _, rfl, _⟩ := h; rfl) | (obtain ⟨_, _, _, _, _, _, _, _, _, _, _, _, _, _, _, rfl, _⟩ := h; rfl) | (obtain ⟨_, _, _, _, _, _, _, _, _, _, _, _, _, _, _, _, rfl, _⟩ := h; rfl) | (obtain ⟨_, _, _, _, _, _, _, _, _, _, _, _, _, _, _, _, _, rfl, _⟩ := h; rfl) | (obtain ⟨_, _, _, _, _, _, _, _, _, _, _, _, _, _, _, _, _, _, rfl, _⟩ := h; rfl) | (obtain ⟨_, _, _, _, _, _, _, _, _, _, _, _, _, _, _, _, _, _, _, rfl, _⟩ := h; rfl) | (obtain ⟨_, _, _, _, _, _, _, _, _, _, _, _, _, _, _, _, _, _, _, _, rfl, _⟩ := h; rfl) | (obtain ⟨_, _, _, _, _, _, _, _, _, _, _, _, _, _, _, _, _, _, _, _, _, rfl, _⟩ := h; rfl) | (obtain ⟨rfl, _⟩ := h; rfl))
theorem ok__law_due (T : Txt K mg) : FnOk Pg T.w0 K mg base CX0 4 T.D__law_due.f T.D__law_due.d ["world", "values", "told", "at"] ((spD K F__law_due)) := by
  have G__law_cell_of := ok__law_cell_of (Pg := Pg) (base := base) T
  refine T.D__law_due.F.ok (k := 3) sc__law_due (spD_len (len__law_due)) (fun cdv A outer s H vs Q E hr h => ?_)
  refine ⟨_, (pss_cons (ps_if (pt_cmpR op_lt (pv 3) (pe_callB (call_lenK (K := K) rfl) (by rfl) T.n_len (by decide +kernel) (pa_cons (pe_ix (ix_seqK (K := K) rfl) (pv 0) pe_int (fun _ _ => rfl)) pa_nil)) (nomark _))
      (pss_one (ps_ret (pe_ix (ix_seqK (K := K) rfl) (pv 1) (pv 3) (fun _ _ => rfl))))
      pss_nil)
    (pss_cons (ps_asg (pe_tup (pa_cons (pe_ix (ix_seqK (K := K) rfl) (pe_ix (ix_seqK (K := K) rfl) (pv 0) pe_int (fun _ _ => rfl)) (pe_op op_sub (pv 3) (pe_callB (call_lenK (K := K) rfl) (by rfl) T.n_len (by decide +kernel) (pa_cons (pe_ix (ix_seqK (K := K) rfl) (pv 0) pe_int (fun _ _ => rfl)) pa_nil))) (fun _ _ => rfl)) (pa_cons (pe_ix (ix_seqK (K := K) rfl) (pv 0) pe_int (fun _ _ => rfl)) pa_nil))) (by exact (pg_tupK (K := K) (n := 2) rfl rfl (pgs_cons (pg_name (i := 4) sc__law_due.nd rfl (by first | exact Or.inl rfl | exact Or.inr rfl)) (pgs_cons (pg_name (i := 5) sc__law_due.nd rfl (by first | exact Or.inl rfl | exact Or.inr rfl)) pgs_nil)))))
    (pss_cons (ps_asg (pe_ix (ix_seqK (K := K) rfl) (pv 5) (pv 3) (fun _ _ => rfl)) (by exact (pg_tupK (K := K) (n := 2) rfl rfl (pgs_cons (pg_name (i := 6) sc__law_due.nd rfl (by first | exact Or.inl rfl | exact Or.inr rfl)) (pgs_cons (pg_name (i := 7) sc__law_due.nd rfl (by first | exact Or.inl rfl | exact Or.inr rfl)) pgs_nil)))))
    (pss_one (ps_ret (pe_callTy (call_tuple_ofK (K := K) rfl) (by rfl) T.n_tuple (by decide +kernel) (pa_cons (pe_lc (own := [("i", 8)]) rfl sc__law_due.nd (pi_range1 (by rfl) T.n_range (pa_cons (pv 6) pa_nil)) (blkOk_by (N := ["world", "values", "told", "at", "step", "shapes", "rows", "columns", "i", "j"]) (sc := defScope s__law_due) (by decide +kernel)) (fun _ _ _ _ _ => (pg_name (i := 8) sc__law_due.nd rfl (by first | exact Or.inl rfl | exact Or.inr rfl))) (fun _ _ _ _ _ => pts_nil) (fun _ _ _ _ _ => (pe_callTy (call_tuple_ofK (K := K) rfl) (by rfl) T.n_tuple (by decide +kernel) (pa_cons (pe_lc (own := [("j", 9)]) rfl sc__law_due.nd (pi_range1 (by rfl) T.n_range (pa_cons (pv 7) pa_nil)) (by exact blkOk_by (N := ["world", "values", "told", "at", "step", "shapes", "rows", "columns", "i", "j"]) (by kernel_rfl)) (fun _ _ _ _ _ => (pg_name (i := 9) sc__law_due.nd rfl (by first | exact Or.inl rfl | exact Or.inr rfl))) (fun _ _ _ _ _ => pts_nil) (fun _ _ _ _ _ => (pe_call G__law_cell_of (hr.mono (by decide)) (by rfl) T.D__law_cell_of.g T.D__law_cell_of.F.kp T.D__law_cell_of.b .nil pass0 (pa_cons (pv 4) (pa_cons (pv 5) (pa_cons (pv 2) (pa_cons (pv 8) (pa_cons (pv 9) pa_nil)))))))) pa_nil)))) pa_nil))))))), ?_⟩
  try dsimp only [cxOf, Cx.blk, Cx.nox, Cx.wish]
  (refine body_of h fun W ds P eK f => ?_); subst eK
  obtain ⟨n, gs, sts, r, v, told, a, m, t, R, C, B, V, G, M, rfl, d, r12, c12, h1, h2, hP⟩ := f
  walk_at "pd"
  refine ⟨fun z => ?_, fun z => ?_⟩
  · obtain ⟨x, hx, e⟩ := h1 (by have := of_decide_eq_true z; omega)
    walk_at "pd"
    refine rd_ixT (j := a) (by omega) (by rw [List.getElem?_map, hx]; rfl) ?_
    rw [e]
    exact hP
  · have ge : gs.length ≤ a := by have := of_decide_eq_false z; omega
    obtain ⟨hr, hB, tm, hT, hS, s, hs, ns, hM⟩ := h2 ge
    walk_at "pd"
    refine sd_asgG (js := [4] ++ [5]) ?_
    walk_at "pd"
    refine rd_ixL (j := 2) rfl rfl ?_
    walk_at "pd"
    refine rd_ixL (j := a - gs.length) (by omega) (by rw [List.getElem?_map, hs]; rfl) ?_
    walk_at "pd"
    refine rd_ixL (j := 3) rfl rfl ?_
    walk_at "pd"
    refine gd_tup2 (gd_name (gd_name ?_))
    walk_at "pd"
    refine sd_asgG (js := [6] ++ [7]) ?_
    walk_at "pd"
    refine rd_ixL (j := a) (by omega) (by rw [List.getElem?_map, hr]; rfl) ?_
    unfold shD
    refine gd_tup2 (gd_name (gd_name ?_))
    walk_at "pd"
    refine ev_lcM (List.range R) ixD (fun i => .tup ((List.range C).map fun j => atX M i j)) (it_rng1 ?_)
    walk_at "pd"
    refine ⟨_, rfl, by omega, by omega, rngM _, by rw [List.length_range]; omega, fun i i' hi => ⟨_, by simp, gd_name ?_⟩, ?_⟩
    · obtain ⟨ui, rfl⟩ := range_get hi
      walk_at "pd"
      refine ev_lcM (List.range C) ixD (fun j => atX M i' j) (it_rng1 ?_)
      walk_at "pd"
      refine ⟨_, rfl, by omega, by omega, rngM _, by rw [List.length_range]; omega, fun j j' hj => ⟨_, by simp, gd_name ?_⟩, ?_⟩
      · obtain ⟨uj, rfl⟩ := range_get hj
        have z : ∀ q : Nat, (0 : Int) + (q : Int) = (q : Int) := fun q => by omega
        unfold ixD
        walk_at "pd"
        exact ⟨m, t, B, V, v, G, s.1, s.2, M, r, told, R, C, i', j', by rw [z, z]; rfl, hB, tm, hT, hS, ns, hM, d, ui, uj, rfl⟩
      · walk_at "pd"
        rfl
    · walk_at "pd"
      have e : tupX M = .tup ((List.range R).map fun i => .tup ((List.range C).map fun j => atX M i j)) := by
        have e2 := congrArg (List.map D.tup) (eq_range d)
        rw [List.map_map] at e2
        exact congrArg D.tup e2
      rw [← e]
      exact hP
set_option maxHeartbeats 0 in
theorem ok_law (T : Txt K mg) : FnOk Pg T.w0 K mg base CX0 11 T.D_law.f T.D_law.d ["script"] (spLaw K) := by
  have G__law_are_rows := ok__law_are_rows (Pg := Pg) (base := base) T
  have G__law_due := ok__law_due (Pg := Pg) (base := base) T
  have G__law_pick := ok__law_pick (Pg := Pg) (base := base) T
  have G__law_script := ok__law_script (Pg := Pg) (base := base) T
  have G__law_start := ok__law_start (Pg := Pg) (base := base) T
  have G__law_values := ok__law_values (Pg := Pg) (base := base) T
  have G__law_words := ok__law_words (Pg := Pg) (base := base) T
  have G__law_world := ok__law_world (Pg := Pg) (base := base) T
  have G_outcome := ok_outcome (Pg := Pg) (base := base) T
  refine T.D_law.F.ok (k := 10) sc_law (fun vs H Q E h => by obtain ⟨_, _, rfl, _⟩ := h; rfl) (fun cdv A outer s H vs Q E hr h => ?_)
  refine ⟨_, (pss_cons (ps_set (i := 1) sc_law.nd rfl (by first | exact Or.inl rfl | exact Or.inr rfl) (pe_call G__law_start (hr.mono (by decide)) (by rfl) T.D__law_start.g T.D__law_start.F.kp T.D__law_start.b .nil pass0 (pa_cons (pv 0) pa_nil)))
    (pss_cons (ps_set (i := 2) sc_law.nd rfl (by first | exact Or.inl rfl | exact Or.inr rfl) (pe_call G__law_world (hr.mono (by decide)) (by rfl) T.D__law_world.g T.D__law_world.F.kp T.D__law_world.b .nil pass0 (pa_cons (pv 1) (pa_cons (pe_call G__law_words (hr.mono (by decide)) (by rfl) T.D__law_words.g T.D__law_words.F.kp T.D__law_words.b .nil pass0 (pa_cons (pv 1) (pa_cons pe_int pa_nil))) pa_nil))))
    (pss_cons (ps_set (i := 3) sc_law.nd rfl (by first | exact Or.inl rfl | exact Or.inr rfl) (pe_call G__law_values (hr.mono (by decide)) (by rfl) T.D__law_values.g T.D__law_values.F.kp T.D__law_values.b .nil pass0 (pa_cons (pv 1) (pa_cons (pv 2) pa_nil))))
    (pss_cons (ps_set (i := 4) sc_law.nd rfl (by first | exact Or.inl rfl | exact Or.inr rfl) (pe_call G__law_script (hr.mono (by decide)) (by rfl) T.D__law_script.g T.D__law_script.F.kp T.D__law_script.b .nil pass0 (pa_cons (pv 2) pa_nil)))
    (pss_cons (ps_set (i := 5) sc_law.nd rfl (by first | exact Or.inl rfl | exact Or.inr rfl) (pe_lst pa_nil))
    (pss_cons (ps_for PassesOwn.never rfl (pi_range1 (by rfl) T.n_range (pa_cons (pe_callB (call_lenK (K := K) rfl) (by rfl) T.n_len (by decide +kernel) (pa_cons (pe_ix (ix_seqK (K := K) rfl) (pv 2) pe_int (fun _ _ => rfl)) pa_nil)) pa_nil)) (pg_name (i := 6) sc_law.nd rfl (by first | exact Or.inl rfl | exact Or.inr rfl))
      (pss_cons (ps_set (i := 8) sc_law.nd rfl (by first | exact Or.inl rfl | exact Or.inr rfl) (pe_call G_outcome (hr.mono (by decide)) (by rfl) T.D_outcome.g T.D_outcome.F.kp T.D_outcome.b .nil passF (pa_cons (pv 4) (pa_cons (pv 3) (pa_cons (pv 6) pa_nil)))))
    (pss_cons (ps_if (pt_not (pt_val (pe_call G__law_are_rows (hr.mono (by decide)) (by rfl) T.D__law_are_rows.g T.D__law_are_rows.F.kp T.D__law_are_rows.b .nil pass0 (pa_cons (pv 8) (pa_cons (pe_call G__law_due (hr.mono (by decide)) (by rfl) T.D__law_due.g T.D__law_due.F.kp T.D__law_due.b .nil pass0 (pa_cons (pv 2) (pa_cons (pv 3) (pa_cons (pv 5) (pa_cons (pv 6) pa_nil))))) pa_nil)))))
      (pss_one (ps_ret pe_bl))
      pss_nil)
    (pss_one (ps_expr (pe_bm PySem.F.plainAttrs_list PySem.F.slot_list_append PySem.F.type_list_append mt_append (pv 5) (pa_cons (pv 8) pa_nil)))))))
    (pss_cons (ps_set (i := 7) sc_law.nd rfl (by first | exact Or.inl rfl | exact Or.inr rfl) (pe_call G__law_pick (hr.mono (by decide)) (by rfl) T.D__law_pick.g T.D__law_pick.F.kp T.D__law_pick.b .nil pass0 (pa_cons (pv 1) (pa_cons (pe_callB (call_lenK (K := K) rfl) (by rfl) T.n_len (by decide +kernel) (pa_cons (pv 5) pa_nil)) pa_nil))))
    (pss_one (ps_ret (pe_cmpR (op_eqDK (K := K) rfl (hr_u hr)) (pe_call G_outcome (hr.mono (by decide)) (by rfl) T.D_outcome.g T.D_outcome.F.kp T.D_outcome.b .nil passF (pa_cons (pv 4) (pa_cons (pv 3) (pa_cons (pv 7) pa_nil)))) (pe_ix (ix_seqK (K := K) rfl) (pv 5) (pv 7) (fun _ _ => rfl)) (nomark _))))))))))), ?_⟩
  try dsimp only [cxOf, Cx.blk, Cx.nox, Cx.wish]
  refine law_bodyP h fun W eK => ?_
  subst eK
  refine so_seq (so_lift ?_)
  walk_at "pd"
  refine ⟨6, rfl, by decide, by decide, fun ws lw hw hns => ?_⟩
  walk_at "pd"
  refine ⟨ws, rfl, by omega, hw, fun n gs xs r w lx hst => ?_⟩
  have hst := hst hns
  refine so_seq (so_lift ?_)
  walk_at "pd"
  refine ⟨n, gs, xs, r, rfl, w, by omega, fun B V v hB hv => ?_⟩
  refine so_seq (so_lift ?_)
  walk_at "pd"
  refine ⟨n, gs, xs, r, rfl, w, ?_⟩
  refine so_seq (so_new ?_)
  walk_at "pd"
  refine fun p fresh => ?_
  obtain ⟨sts, rfl, hk, hi⟩ := world_sts w
  have n1 := w.n1
  have n3 := w.n3
  have g3 := w.g3
  rw [List.length_map] at lx hB
  have hV := hB.v2
  have ch := hv.vals.ch w.g n1 n3 T.k_Grid.C
  rw [← wGs_gd w.g] at ch ⊢
  have nst : ∀ s ∈ sts, s.1 ≠ "star" := fun s hs e => by
    obtain ⟨k, l, e1, e2⟩ := hst _ (List.mem_map.mpr ⟨s, hs, rfl⟩)
    exact e2 ((stD_inj e1).1.symm.trans e)
  obtain ⟨F, hS, hQ⟩ := scx_ex (CG := T.k_Grid.C) (good_Outcomes hB v) (wGs_ok w) (by omega) (Nat.le_refl _) (fun s hs e => nst s hs e) (fun i x hx a b row u h1 h2 => by
    obtain ⟨g, hg, rfl⟩ : ∃ g, gs[i]? = some g ∧ x = wG n g := by
      rw [List.getElem?_map] at hx
      cases e : gs[i]? with
      | none => rw [e] at hx; cases hx
      | some g => rw [e] at hx; cases hx; exact ⟨g, rfl, rfl⟩
    obtain ⟨y, l, q, y1, y2, y3, y4, y5⟩ := put_cell hV hv w.g hg h1 h2
    exact ⟨fun _ => ⟨y, l, q, y1, y2, y3⟩, q, y4, y5⟩) hk (world_run' w T.k_Grid.C)
  have lg : (gs.map (wG n)).length = gs.length := List.length_map ..
  have lF : F.length = gs.length + sts.length := by rw [hS.len, lg]
  have lr : r.length = F.length := by rw [hS.lr, hS.len]
  have frs : ∀ M ∈ F, ∀ row ∈ M, ∀ c ∈ row, ∃ q : Fr, c = fr q := fun M hM row hr c hc => by
    obtain ⟨i, hi⟩ := List.getElem?_of_mem hM
    obtain ⟨q, e, _⟩ := hQ i M hi row hr c hc
    exact ⟨q, e⟩
  have hcf : ∀ M ∈ F, ∀ row ∈ M, ∀ c ∈ row, cellF c = true := fun M hM row hr c hc => by
    obtain ⟨q, rfl⟩ := frs M hM row hr c hc
    rfl
  have out : ∀ (a : Nat) (M : GX) (Q : D → Prop) (X : XV → Prop), F[a]? = some M → Q (tupX M) → F_outcome T [scD T.k_Script.C (.tup ((gs.map (wG n)).map (gridD T.k_Grid.C))) (.tup (sts.map fun s => stD s.1 s.2)) r, .tup (v.map gridV), .int (a : Int)] Q X := fun a M Q X hM hq => ⟨n, v, gs.map (wG n), sts, F, r, a, M, rfl, hS, hcf, ch, hM, hq⟩
  refine so_seq (so_for (it_rng1 ?_))
  walk_at "pd"
  refine rd_ixL (j := 3) rfl rfl ?_
  walk_at "pd"
  rw [List.length_map]
  have few := hS.few
  refine ⟨_, rfl, by omega, by omega, fun k ω δ => ∃ (x6 x8 : Option D), Has ω p ((F.take k).map tupX) ∧ δ = [none, some .st, some (worldD n gs (sts.map fun s => stD s.1 s.2) r), some (.tup (v.map gridV)), some (scD T.k_Script.C (.tup ((gs.map (wG n)).map (gridD T.k_Grid.C))) (.tup (sts.map fun s => stD s.1 s.2)) r), some (.obj p), x6, none, x8], ⟨_, _, Has.new fresh, rfl⟩, fun k d ω δ hd hI => ?_, fun ω δ hI => ?_⟩
  · obtain ⟨x6, x8, hp, rfl⟩ := hI
    obtain ⟨kr, rfl⟩ := rngD_get hd
    have kl : k < F.length := by omega
    have hF := List.getElem?_eq_getElem kl
    have hr := List.getElem?_eq_getElem (show k < r.length by omega)
    have hq := hQ k _ hF
    generalize F[k] = M at hF hq
    generalize r[k] = sh at hr
    obtain ⟨R, C, rfl, d, R1, C1, R12, C12⟩ := hS.dim k M sh hF hr
    have zk : (0 : Int) + (k : Int) = (k : Int) := by omega
    refine ⟨_, gd_name ?_⟩
    rw [zk]
    refine so_seq (so_asg ?_)
    refine ev_callX ?_
    walk_at "pd"
    refine out k M _ _ hF ?_
    have lt : ((F.take k).map tupX).length = k := by rw [List.length_map, List.length_take]; omega
    refine so_seq (so_ifL ?_)
    refine evtl_put (a := p) 5 rfl hp.1 (evtl_ev ?_)
    walk_at "pd"
    refine ⟨n, gs, sts, r, v, _, k, sts.length, k - gs.length, R, C, B, V, fun a => if a < k then F[a]? else none, M, rfl, d, R12, C12, fun q => ?_, fun q => ?_, ?_⟩
    · have kv : k < v.length := by rw [hv.1]; exact q
      have kx := List.getElem?_eq_getElem kv
      have kg := List.getElem?_eq_getElem q
      refine ⟨_, kx, ?_⟩
      have e1 := (hS.giv k _ (by rw [List.getElem?_map, kg]; rfl)).1
      rw [hF] at e1
      rw [Option.some.inj e1]
      exact (put_eq hV hv w.g kg kx).symm
    · refine ⟨hr, hB, by omega, fun a X hX => ?_, fun a X hX => ?_, ?_⟩
      · have hX : (if a < k then F[a]? else none) = some X := hX
        by_cases z : a < k
        · rw [if_pos z] at hX
          refine ⟨by rw [List.getElem?_map, List.getElem?_take, if_pos z, hX]; rfl, ?_⟩
          have qa := hQ a X hX
          rw [lg] at qa
          exact cells_up qa fun y hy => (good_Outcomes hB v).mono (by omega) hy
        · rw [if_neg z] at hX
          cases hX
      · have hX : (if a < k then F[a]? else none) = some X := hX
        by_cases z : a < k
        · rw [if_pos z] at hX
          have al := (List.getElem?_eq_some_iff.mp hX).1
          have ea := List.getElem?_eq_getElem (show a < r.length by omega)
          exact ⟨_, ea, hS.dim a X _ hX ea⟩
        · rw [if_neg z] at hX
          cases hX
      · have ks : k - gs.length < sts.length := by omega
        have es := List.getElem?_eq_getElem ks
        obtain ⟨M', hM', mk⟩ := hS.mks _ _ es
        rw [lg, show gs.length + (k - gs.length) = k by omega] at hM' mk
        rw [hF] at hM'
        cases hM'
        exact ⟨_, es, nst _ (List.mem_of_getElem? es), mk⟩
    walk_at "pd"
    refine ⟨M, rfl, frs M (List.mem_of_getElem? hF), ?_⟩
    refine ⟨_, rfl, fun z => (by cases z), fun _ => ?_⟩
    refine so_next ?_
    refine so_app (i := 5) rfl hp.1 (fun es m => by rw [hp.2 es m, lt]; omega) ?_
    walk_at "pd"
    refine ⟨_, rfl, ?_⟩
    have e9 : (F.take (k + 1)).map tupX = (F.take k).map tupX ++ [tupX M] := by
      rw [← take_snoc hF, List.map_append]
      rfl
    simp only [e9]
    exact ⟨_, _, hp.put, rfl⟩
  · obtain ⟨x6, x8, hp, rfl⟩ := hI
    rw [rngD_length, Int.toNat_natCast, lr, List.take_length] at hp
    have l1 : 1 ≤ F.length := by have := w.g1; omega
    refine so_seq (so_asgL ?_)
    refine evl_put (a := p) 5 rfl hp.1 (evl_ev ?_)
    walk_at "pd"
    rw [List.length_map]
    refine pick_small (by omega) (by omega) fun a a0 a1 => ?_
    obtain ⟨a, rfl⟩ := Int.eq_ofNat_of_zero_le a0
    have al : a < F.length := by omega
    have hF := List.getElem?_eq_getElem al
    generalize F[a] = M at hF
    refine ⟨rfl, ?_⟩
    refine so_retL (evl_put (a := p) 5 rfl hp.1 (evl_ev ?_))
    walk_at "pd"
    refine ev_callX ?_
    walk_at "pd"
    refine out a M _ _ hF ?_
    walk_at "pd"
    refine rd_ixL (j := a) rfl (by rw [List.getElem?_map, hF]; rfl) ?_
    have fine := tupX_fine (frs M (List.mem_of_getElem? hF))
    refine rd_eqD fine fine ?_
    rw [D.eqv_self fine]
    exact ⟨rfl, rfl⟩
end
theorem all_mk {Pg : Program} {w : World} {K : PySem.W.Frag} {h : Heap} {mg : Str → Option Value} {fa : Addr} (X : K.In h) (G : h.Ns mainGlobals mg) (hfa : mg "law" = some (.ref fa))
    {f0 : Addr} {od0 an0 : Option Addr} {sl0 : Array (Option Value)} {oc0 kV0 dc0 pm0 cd0 ct0 : Value}
    {f1 : Addr} {od1 an1 : Option Addr} {sl1 : Array (Option Value)} {oc1 kV1 dc1 pm1 cd1 ct1 : Value}
    {f2 : Addr} {od2 an2 : Option Addr} {sl2 : Array (Option Value)} {oc2 kV2 dc2 pm2 cd2 ct2 : Value}
    {f3 : Addr} {od3 an3 : Option Addr} {sl3 : Array (Option Value)} {oc3 kV3 dc3 pm3 cd3 ct3 : Value}
    {f4 : Addr} {od4 an4 : Option Addr} {sl4 : Array (Option Value)} {oc4 kV4 dc4 pm4 cd4 ct4 : Value}
    {f5 : Addr} {od5 an5 : Option Addr} {sl5 : Array (Option Value)} {oc5 kV5 dc5 pm5 cd5 ct5 : Value}
    {f6 : Addr} {od6 an6 : Option Addr} {sl6 : Array (Option Value)} {oc6 kV6 dc6 pm6 cd6 ct6 : Value}
    {f7 : Addr} {od7 an7 : Option Addr} {sl7 : Array (Option Value)} {oc7 kV7 dc7 pm7 cd7 ct7 : Value}
    {f8 : Addr} {od8 an8 : Option Addr} {sl8 : Array (Option Value)} {oc8 kV8 dc8 pm8 cd8 ct8 : Value}
    {f9 : Addr} {od9 an9 : Option Addr} {sl9 : Array (Option Value)} {oc9 kV9 dc9 pm9 cd9 ct9 : Value}
    {f10 : Addr} {od10 an10 : Option Addr} {sl10 : Array (Option Value)} {oc10 kV10 dc10 pm10 cd10 ct10 : Value}
    {f11 : Addr} {od11 an11 : Option Addr} {sl11 : Array (Option Value)} {oc11 kV11 dc11 pm11 cd11 ct11 : Value}
    {f12 : Addr} {od12 an12 : Option Addr} {sl12 : Array (Option Value)} {oc12 kV12 dc12 pm12 cd12 ct12 : Value}
    {f13 : Addr} {od13 an13 : Option Addr} {sl13 : Array (Option Value)} {oc13 kV13 dc13 pm13 cd13 ct13 : Value}
    {f14 : Addr} {od14 an14 : Option Addr} {sl14 : Array (Option Value)} {oc14 kV14 dc14 pm14 cd14 ct14 : Value}
    {f15 : Addr} {od15 an15 : Option Addr} {sl15 : Array (Option Value)} {oc15 kV15 dc15 pm15 cd15 ct15 : Value}
    {f16 : Addr} {od16 an16 : Option Addr} {sl16 : Array (Option Value)} {oc16 kV16 dc16 pm16 cd16 ct16 : Value}
    {f17 : Addr} {od17 an17 : Option Addr} {sl17 : Array (Option Value)} {oc17 kV17 dc17 pm17 cd17 ct17 : Value}
    {f18 : Addr} {od18 an18 : Option Addr} {sl18 : Array (Option Value)} {oc18 kV18 dc18 pm18 cd18 ct18 : Value}
    {f19 : Addr} {od19 an19 : Option Addr} {sl19 : Array (Option Value)} {oc19 kV19 dc19 pm19 cd19 ct19 : Value}
    {f20 : Addr} {od20 an20 : Option Addr} {sl20 : Array (Option Value)} {oc20 kV20 dc20 pm20 cd20 ct20 : Value}
    {f21 : Addr} {od21 an21 : Option Addr} {sl21 : Array (Option Value)} {oc21 kV21 dc21 pm21 cd21 ct21 : Value}
    {f22 : Addr} {od22 an22 : Option Addr} {sl22 : Array (Option Value)} {oc22 kV22 dc22 pm22 cd22 ct22 : Value}
    {f23 : Addr} {od23 an23 : Option Addr} {sl23 : Array (Option Value)} {oc23 kV23 dc23 pm23 cd23 ct23 : Value}
    {f24 : Addr} {od24 an24 : Option Addr} {sl24 : Array (Option Value)} {oc24 kV24 dc24 pm24 cd24 ct24 : Value}
    {f25 : Addr} {od25 an25 : Option Addr} {sl25 : Array (Option Value)} {oc25 kV25 dc25 pm25 cd25 ct25 : Value}
    {f26 : Addr} {od26 an26 : Option Addr} {sl26 : Array (Option Value)} {oc26 kV26 dc26 pm26 cd26 ct26 : Value}
    {f27 : Addr} {od27 an27 : Option Addr} {sl27 : Array (Option Value)} {oc27 kV27 dc27 pm27 cd27 ct27 : Value}
    {f28 : Addr} {od28 an28 : Option Addr} {sl28 : Array (Option Value)} {oc28 kV28 dc28 pm28 cd28 ct28 : Value}
    {f29 : Addr} {od29 an29 : Option Addr} {sl29 : Array (Option Value)} {oc29 kV29 dc29 pm29 cd29 ct29 : Value}
    {f30 : Addr} {od30 an30 : Option Addr} {sl30 : Array (Option Value)} {oc30 kV30 dc30 pm30 cd30 ct30 : Value}
    {f31 : Addr} {od31 an31 : Option Addr} {sl31 : Array (Option Value)} {oc31 kV31 dc31 pm31 cd31 ct31 : Value}
    {f32 : Addr} {od32 an32 : Option Addr} {sl32 : Array (Option Value)} {oc32 kV32 dc32 pm32 cd32 ct32 : Value}
    {f33 : Addr} {od33 an33 : Option Addr} {sl33 : Array (Option Value)} {oc33 kV33 dc33 pm33 cd33 ct33 : Value}
    {f34 : Addr} {od34 an34 : Option Addr} {sl34 : Array (Option Value)} {oc34 kV34 dc34 pm34 cd34 ct34 : Value}
    {f35 : Addr} {od35 an35 : Option Addr} {sl35 : Array (Option Value)} {oc35 kV35 dc35 pm35 cd35 ct35 : Value}
    {f36 : Addr} {od36 an36 : Option Addr} {sl36 : Array (Option Value)} {oc36 kV36 dc36 pm36 cd36 ct36 : Value}
    {f37 : Addr} {od37 an37 : Option Addr} {sl37 : Array (Option Value)} {oc37 kV37 dc37 pm37 cd37 ct37 : Value}
    {f38 : Addr} {od38 an38 : Option Addr} {sl38 : Array (Option Value)} {oc38 kV38 dc38 pm38 cd38 ct38 : Value}
    {f39 : Addr} {od39 an39 : Option Addr} {sl39 : Array (Option Value)} {oc39 kV39 dc39 pm39 cd39 ct39 : Value}
    {f40 : Addr} {od40 an40 : Option Addr} {sl40 : Array (Option Value)} {oc40 kV40 dc40 pm40 cd40 ct40 : Value}
    {f41 : Addr} {od41 an41 : Option Addr} {sl41 : Array (Option Value)} {oc41 kV41 dc41 pm41 cd41 ct41 : Value}
    {f42 : Addr} {od42 an42 : Option Addr} {sl42 : Array (Option Value)} {oc42 kV42 dc42 pm42 cd42 ct42 : Value}
    {f43 : Addr} {od43 an43 : Option Addr} {sl43 : Array (Option Value)} {oc43 kV43 dc43 pm43 cd43 ct43 : Value}
    {f44 : Addr} {od44 an44 : Option Addr} {sl44 : Array (Option Value)} {oc44 kV44 dc44 pm44 cd44 ct44 : Value}
    {f45 : Addr} {od45 an45 : Option Addr} {sl45 : Array (Option Value)} {oc45 kV45 dc45 pm45 cd45 ct45 : Value}
    {f46 : Addr} {od46 an46 : Option Addr} {sl46 : Array (Option Value)} {oc46 kV46 dc46 pm46 cd46 ct46 : Value}
    {f47 : Addr} {od47 an47 : Option Addr} {sl47 : Array (Option Value)} {oc47 kV47 dc47 pm47 cd47 ct47 : Value}
    {f48 : Addr} {od48 an48 : Option Addr} {sl48 : Array (Option Value)} {oc48 kV48 dc48 pm48 cd48 ct48 : Value}
    {f49 : Addr} {od49 an49 : Option Addr} {sl49 : Array (Option Value)} {oc49 kV49 dc49 pm49 cd49 ct49 : Value}
    {f50 : Addr} {od50 an50 : Option Addr} {sl50 : Array (Option Value)} {oc50 kV50 dc50 pm50 cd50 ct50 : Value}
    {f51 : Addr} {od51 an51 : Option Addr} {sl51 : Array (Option Value)} {oc51 kV51 dc51 pm51 cd51 ct51 : Value}
    {f52 : Addr} {od52 an52 : Option Addr} {sl52 : Array (Option Value)} {oc52 kV52 dc52 pm52 cd52 ct52 : Value}
    {f53 : Addr} {od53 an53 : Option Addr} {sl53 : Array (Option Value)} {oc53 kV53 dc53 pm53 cd53 ct53 : Value}
    {f54 : Addr} {od54 an54 : Option Addr} {sl54 : Array (Option Value)} {oc54 kV54 dc54 pm54 cd54 ct54 : Value}
    {f55 : Addr} {od55 an55 : Option Addr} {sl55 : Array (Option Value)} {oc55 kV55 dc55 pm55 cd55 ct55 : Value}
    {f56 : Addr} {od56 an56 : Option Addr} {sl56 : Array (Option Value)} {oc56 kV56 dc56 pm56 cd56 ct56 : Value}
    {f57 : Addr} {od57 an57 : Option Addr} {sl57 : Array (Option Value)} {oc57 kV57 dc57 pm57 cd57 ct57 : Value}
    {f58 : Addr} {od58 an58 : Option Addr} {sl58 : Array (Option Value)} {oc58 kV58 dc58 pm58 cd58 ct58 : Value}
    {f59 : Addr} {od59 an59 : Option Addr} {sl59 : Array (Option Value)} {oc59 kV59 dc59 pm59 cd59 ct59 : Value}
    {f60 : Addr} {od60 an60 : Option Addr} {sl60 : Array (Option Value)} {oc60 kV60 dc60 pm60 cd60 ct60 : Value}
    {f61 : Addr} {od61 an61 : Option Addr} {sl61 : Array (Option Value)} {oc61 kV61 dc61 pm61 cd61 ct61 : Value}
    {f62 : Addr} {od62 an62 : Option Addr} {sl62 : Array (Option Value)} {oc62 kV62 dc62 pm62 cd62 ct62 : Value}
    {f63 : Addr} {od63 an63 : Option Addr} {sl63 : Array (Option Value)} {oc63 kV63 dc63 pm63 cd63 ct63 : Value}
    {f64 : Addr} {od64 an64 : Option Addr} {sl64 : Array (Option Value)} {oc64 kV64 dc64 pm64 cd64 ct64 : Value}
    {f65 : Addr} {od65 an65 : Option Addr} {sl65 : Array (Option Value)} {oc65 kV65 dc65 pm65 cd65 ct65 : Value}
    {f66 : Addr} {od66 an66 : Option Addr} {sl66 : Array (Option Value)} {oc66 kV66 dc66 pm66 cd66 ct66 : Value}
    {f67 : Addr} {od67 an67 : Option Addr} {sl67 : Array (Option Value)} {oc67 kV67 dc67 pm67 cd67 ct67 : Value}
    {f68 : Addr} {od68 an68 : Option Addr} {sl68 : Array (Option Value)} {oc68 kV68 dc68 pm68 cd68 ct68 : Value}
    {f69 : Addr} {od69 an69 : Option Addr} {sl69 : Array (Option Value)} {oc69 kV69 dc69 pm69 cd69 ct69 : Value}
    {f70 : Addr} {od70 an70 : Option Addr} {sl70 : Array (Option Value)} {oc70 kV70 dc70 pm70 cd70 ct70 : Value}
    {f71 : Addr} {od71 an71 : Option Addr} {sl71 : Array (Option Value)} {oc71 kV71 dc71 pm71 cd71 ct71 : Value}
    {f72 : Addr} {od72 an72 : Option Addr} {sl72 : Array (Option Value)} {oc72 kV72 dc72 pm72 cd72 ct72 : Value}
    {f73 : Addr} {od73 an73 : Option Addr} {sl73 : Array (Option Value)} {oc73 kV73 dc73 pm73 cd73 ct73 : Value}
    {f74 : Addr} {od74 an74 : Option Addr} {sl74 : Array (Option Value)} {oc74 kV74 dc74 pm74 cd74 ct74 : Value}
    {f75 : Addr} {od75 an75 : Option Addr} {sl75 : Array (Option Value)} {oc75 kV75 dc75 pm75 cd75 ct75 : Value}
    {f76 : Addr} {od76 an76 : Option Addr} {sl76 : Array (Option Value)} {oc76 kV76 dc76 pm76 cd76 ct76 : Value}
    {f77 : Addr} {od77 an77 : Option Addr} {sl77 : Array (Option Value)} {oc77 kV77 dc77 pm77 cd77 ct77 : Value}
    {f78 : Addr} {od78 an78 : Option Addr} {sl78 : Array (Option Value)} {oc78 kV78 dc78 pm78 cd78 ct78 : Value}
    {C_BadGrid : Addr}
    {nm_BadGrid : _} {q_BadGrid : _} {N_BadGrid : _} {bs_BadGrid : _} {bm_BadGrid : _} {sn_BadGrid : _} {sub_BadGrid : _} {ab_BadGrid : _} {col_BadGrid : _} {dd_BadGrid : _} {k0_BadGrid : _} {k1_BadGrid : _} {k2_BadGrid : _} {k3_BadGrid : _} {k5_BadGrid : _}
    {C_BadScript : Addr}
    {nm_BadScript : _} {q_BadScript : _} {N_BadScript : _} {bs_BadScript : _} {bm_BadScript : _} {sn_BadScript : _} {sub_BadScript : _} {ab_BadScript : _} {col_BadScript : _} {dd_BadScript : _} {k0_BadScript : _} {k1_BadScript : _} {k2_BadScript : _} {k3_BadScript : _} {k5_BadScript : _}
    {C_NoGrid : Addr}
    {nm_NoGrid : _} {q_NoGrid : _} {N_NoGrid : _} {bs_NoGrid : _} {bm_NoGrid : _} {sn_NoGrid : _} {sub_NoGrid : _} {ab_NoGrid : _} {col_NoGrid : _} {dd_NoGrid : _} {k0_NoGrid : _} {k1_NoGrid : _} {k2_NoGrid : _} {k3_NoGrid : _} {k5_NoGrid : _}
    {C_NoValues : Addr}
    {nm_NoValues : _} {q_NoValues : _} {N_NoValues : _} {bs_NoValues : _} {bm_NoValues : _} {sn_NoValues : _} {sub_NoValues : _} {ab_NoValues : _} {col_NoValues : _} {dd_NoValues : _} {k0_NoValues : _} {k1_NoValues : _} {k2_NoValues : _} {k3_NoValues : _} {k5_NoValues : _}
    {C_Grid : Addr}
    {C_Script : Addr}
    {C_Outcomes : Addr}
    {t_ENDLESS : Tok}
    {t_LENGTH_OF_TWO : Tok}
    {t_MOST_BASES : Tok}
    {t_MOST_BOTTOM : Tok}
    {t_MOST_GRIDS : Tok}
    {t_MOST_MADE : Tok}
    {t_MOST_ROWS : Tok}
    {t_MOST_STEPS : Tok}
    {t_MOST_TOP : Tok}
    {d_LENGTHS : Addr} {es_LENGTHS : Array DictEntry} {dn_LENGTHS : _}
    (a0 : PySem.W.nsIn K mainGlobals "_law_start" = some (some (.ref f0)))
    (a1 : PySem.W.nsIn K mainGlobals "_law_pick" = some (some (.ref f1)))
    (a2 : PySem.W.nsIn K mainGlobals "_law_vector" = some (some (.ref f2)))
    (a3 : PySem.W.nsIn K mainGlobals "_law_cell" = some (some (.ref f3)))
    (a4 : PySem.W.nsIn K mainGlobals "_law_row" = some (some (.ref f4)))
    (a5 : PySem.W.nsIn K mainGlobals "_law_grids" = some (some (.ref f5)))
    (a6 : PySem.W.nsIn K mainGlobals "_law_shape" = some (some (.ref f6)))
    (a7 : PySem.W.nsIn K mainGlobals "_law_step" = some (some (.ref f7)))
    (a8 : PySem.W.nsIn K mainGlobals "_law_world" = some (some (.ref f8)))
    (a9 : PySem.W.nsIn K mainGlobals "_law_lowest" = some (some (.ref f9)))
    (a10 : PySem.W.nsIn K mainGlobals "_law_number" = some (some (.ref f10)))
    (a11 : PySem.W.nsIn K mainGlobals "_law_numbers" = some (some (.ref f11)))
    (a12 : PySem.W.nsIn K mainGlobals "_law_values" = some (some (.ref f12)))
    (a13 : PySem.W.nsIn K mainGlobals "_law_unit" = some (some (.ref f13)))
    (a14 : PySem.W.nsIn K mainGlobals "_has_grid_length" = some (some (.ref f14)))
    (a15 : PySem.W.nsIn K mainGlobals "is_whole" = some (some (.ref f15)))
    (a16 : PySem.W.nsIn K mainGlobals "is_pair" = some (some (.ref f16)))
    (a17 : PySem.W.nsIn K mainGlobals "is_fraction" = some (some (.ref f17)))
    (a18 : PySem.W.nsIn K mainGlobals "is_any_unit" = some (some (.ref f18)))
    (a19 : PySem.W.nsIn K mainGlobals "is_unit" = some (some (.ref f19)))
    (a20 : PySem.W.nsIn K mainGlobals "is_cell" = some (some (.ref f20)))
    (a21 : PySem.W.nsIn K mainGlobals "_wrong_part" = some (some (.ref f21)))
    (a24 : PySem.W.nsIn K mainGlobals "_law_grid" = some (some (.ref f24)))
    (a25 : PySem.W.nsIn K mainGlobals "_shape_of_two" = some (some (.ref f25)))
    (a26 : PySem.W.nsIn K mainGlobals "_piece_shape" = some (some (.ref f26)))
    (a27 : PySem.W.nsIn K mainGlobals "_fitting_shape" = some (some (.ref f27)))
    (a28 : PySem.W.nsIn K mainGlobals "is_index" = some (some (.ref f28)))
    (a29 : PySem.W.nsIn K mainGlobals "sources" = some (some (.ref f29)))
    (a30 : PySem.W.nsIn K mainGlobals "is_step" = some (some (.ref f30)))
    (a31 : PySem.W.nsIn K mainGlobals "made_shape" = some (some (.ref f31)))
    (a33 : PySem.W.nsIn K mainGlobals "_shapes_made" = some (some (.ref f33)))
    (a34 : PySem.W.nsIn K mainGlobals "_are_grids" = some (some (.ref f34)))
    (a35 : PySem.W.nsIn K mainGlobals "_shape_put_in" = some (some (.ref f35)))
    (a37 : PySem.W.nsIn K mainGlobals "_law_script" = some (some (.ref f37)))
    (a38 : PySem.W.nsIn K mainGlobals "_law_words" = some (some (.ref f38)))
    (a39 : PySem.W.nsIn K mainGlobals "many_grids" = some (some (.ref f39)))
    (a41 : PySem.W.nsIn K mainGlobals "check_grid" = some (some (.ref f41)))
    (a42 : PySem.W.nsIn K mainGlobals "_beside_cells" = some (some (.ref f42)))
    (a43 : PySem.W.nsIn K mainGlobals "_has_shape" = some (some (.ref f43)))
    (a44 : PySem.W.nsIn K mainGlobals "_is_number_for" = some (some (.ref f44)))
    (a45 : PySem.W.nsIn K mainGlobals "are_numbers" = some (some (.ref f45)))
    (a46 : PySem.W.nsIn K mainGlobals "is_above_nought" = some (some (.ref f46)))
    (a47 : PySem.W.nsIn K mainGlobals "are_values" = some (some (.ref f47)))
    (a48 : PySem.W.nsIn K mainGlobals "are_all_values" = some (some (.ref f48)))
    (a50 : PySem.W.nsIn K mainGlobals "leading" = some (some (.ref f50)))
    (a51 : PySem.W.nsIn K mainGlobals "turned" = some (some (.ref f51)))
    (a52 : PySem.W.nsIn K mainGlobals "moved" = some (some (.ref f52)))
    (a53 : PySem.W.nsIn K mainGlobals "lowest" = some (some (.ref f53)))
    (a54 : PySem.W.nsIn K mainGlobals "sum_of_products" = some (some (.ref f54)))
    (a57 : PySem.W.nsIn K mainGlobals "times" = some (some (.ref f57)))
    (a59 : PySem.W.nsIn K mainGlobals "plus" = some (some (.ref f59)))
    (a70 : PySem.W.nsIn K mainGlobals "outcome" = some (some (.ref f70)))
    (a71 : PySem.W.nsIn K mainGlobals "_law_is_fraction" = some (some (.ref f71)))
    (a72 : PySem.W.nsIn K mainGlobals "_law_are_rows" = some (some (.ref f72)))
    (a73 : PySem.W.nsIn K mainGlobals "_law_source" = some (some (.ref f73)))
    (a74 : PySem.W.nsIn K mainGlobals "_law_plus" = some (some (.ref f74)))
    (a75 : PySem.W.nsIn K mainGlobals "_law_times" = some (some (.ref f75)))
    (a76 : PySem.W.nsIn K mainGlobals "_law_cell_of" = some (some (.ref f76)))
    (a77 : PySem.W.nsIn K mainGlobals "_law_due" = some (some (.ref f77)))
    (a78 : PySem.W.nsIn K mainGlobals "law" = some (some (.ref f78)))
    (gC_BadGrid : PySem.W.nsIn K mainGlobals "BadGrid" = some (some (.ref C_BadGrid)))
    (iC_BadGrid : PySem.W.findIn K (.ref C_BadGrid) "__init__" = some (some (.ref f22)))
    (lk_BadGrid : K.lookup C_BadGrid = some (excClassObj nm_BadGrid q_BadGrid C_BadGrid N_BadGrid bs_BadGrid bm_BadGrid true sn_BadGrid sub_BadGrid ab_BadGrid col_BadGrid dd_BadGrid k0_BadGrid k1_BadGrid k2_BadGrid k3_BadGrid k5_BadGrid "ValueError.__new__"))
    (rv_BadGrid : PySem.HandSPX.refsVE bm_BadGrid = true)
    (sa_BadGrid : PySem.W.findIn K (.ref C_BadGrid) "__setattr__" = some (some (.builtin "object.__setattr__")))
    (eb_BadGrid : PySem.W.subIn K (.ref C_BadGrid) (.type "BaseException") = some true)
    (ty_BadGrid : PySem.W.typeIn K (.ref C_BadGrid) = some (.type "type"))
    (kp_BadGrid : PySem.W.keepIn K (.ref C_BadGrid) = true)
    (gC_BadScript : PySem.W.nsIn K mainGlobals "BadScript" = some (some (.ref C_BadScript)))
    (iC_BadScript : PySem.W.findIn K (.ref C_BadScript) "__init__" = some (some (.ref f32)))
    (lk_BadScript : K.lookup C_BadScript = some (excClassObj nm_BadScript q_BadScript C_BadScript N_BadScript bs_BadScript bm_BadScript true sn_BadScript sub_BadScript ab_BadScript col_BadScript dd_BadScript k0_BadScript k1_BadScript k2_BadScript k3_BadScript k5_BadScript "ValueError.__new__"))
    (rv_BadScript : PySem.HandSPX.refsVE bm_BadScript = true)
    (sa_BadScript : PySem.W.findIn K (.ref C_BadScript) "__setattr__" = some (some (.builtin "object.__setattr__")))
    (eb_BadScript : PySem.W.subIn K (.ref C_BadScript) (.type "BaseException") = some true)
    (ty_BadScript : PySem.W.typeIn K (.ref C_BadScript) = some (.type "type"))
    (kp_BadScript : PySem.W.keepIn K (.ref C_BadScript) = true)
    (gC_NoGrid : PySem.W.nsIn K mainGlobals "NoGrid" = some (some (.ref C_NoGrid)))
    (iC_NoGrid : PySem.W.findIn K (.ref C_NoGrid) "__init__" = some (some (.ref f40)))
    (lk_NoGrid : K.lookup C_NoGrid = some (excClassObj nm_NoGrid q_NoGrid C_NoGrid N_NoGrid bs_NoGrid bm_NoGrid true sn_NoGrid sub_NoGrid ab_NoGrid col_NoGrid dd_NoGrid k0_NoGrid k1_NoGrid k2_NoGrid k3_NoGrid k5_NoGrid "ValueError.__new__"))
    (rv_NoGrid : PySem.HandSPX.refsVE bm_NoGrid = true)
    (sa_NoGrid : PySem.W.findIn K (.ref C_NoGrid) "__setattr__" = some (some (.builtin "object.__setattr__")))
    (eb_NoGrid : PySem.W.subIn K (.ref C_NoGrid) (.type "BaseException") = some true)
    (ty_NoGrid : PySem.W.typeIn K (.ref C_NoGrid) = some (.type "type"))
    (kp_NoGrid : PySem.W.keepIn K (.ref C_NoGrid) = true)
    (gC_NoValues : PySem.W.nsIn K mainGlobals "NoValues" = some (some (.ref C_NoValues)))
    (iC_NoValues : PySem.W.findIn K (.ref C_NoValues) "__init__" = some (some (.ref f40)))
    (lk_NoValues : K.lookup C_NoValues = some (excClassObj nm_NoValues q_NoValues C_NoValues N_NoValues bs_NoValues bm_NoValues true sn_NoValues sub_NoValues ab_NoValues col_NoValues dd_NoValues k0_NoValues k1_NoValues k2_NoValues k3_NoValues k5_NoValues "ValueError.__new__"))
    (rv_NoValues : PySem.HandSPX.refsVE bm_NoValues = true)
    (sa_NoValues : PySem.W.findIn K (.ref C_NoValues) "__setattr__" = some (some (.builtin "object.__setattr__")))
    (eb_NoValues : PySem.W.subIn K (.ref C_NoValues) (.type "BaseException") = some true)
    (ty_NoValues : PySem.W.typeIn K (.ref C_NoValues) = some (.type "type"))
    (kp_NoValues : PySem.W.keepIn K (.ref C_NoValues) = true)
    (gC_Grid : PySem.W.nsIn K mainGlobals "Grid" = some (some (.ref C_Grid)))
    (iC_Grid : PySem.W.findIn K (.ref C_Grid) "__init__" = some (some (.ref f23)))
    (oC_Grid : clB K C_Grid f23 = true)
    (gC_Script : PySem.W.nsIn K mainGlobals "Script" = some (some (.ref C_Script)))
    (iC_Script : PySem.W.findIn K (.ref C_Script) "__init__" = some (some (.ref f36)))
    (oC_Script : clB K C_Script f36 = true)
    (gC_Outcomes : PySem.W.nsIn K mainGlobals "Outcomes" = some (some (.ref C_Outcomes)))
    (iC_Outcomes : PySem.W.findIn K (.ref C_Outcomes) "__init__" = some (some (.ref f49)))
    (oC_Outcomes : clB K C_Outcomes f49 = true)
    (ii_Grid : isiB K C_Grid = true)
    (mE_Outcomes_grids_of : PySem.W.findIn K (.ref C_Outcomes) "grids_of" = some (some (.ref f68)))
    (mB_Outcomes_grids_of : meB K C_Outcomes f68 "grids_of" = true)
    (mE_Outcomes_grids_to : PySem.W.findIn K (.ref C_Outcomes) "grids_to" = some (some (.ref f69)))
    (mB_Outcomes_grids_to : meB K C_Outcomes f69 "grids_to" = true)
    (mE_Outcomes_inner : PySem.W.findIn K (.ref C_Outcomes) "inner" = some (some (.ref f55)))
    (mB_Outcomes_inner : meB K C_Outcomes f55 "inner" = true)
    (mE_Outcomes_powers_of : PySem.W.findIn K (.ref C_Outcomes) "powers_of" = some (some (.ref f62)))
    (mB_Outcomes_powers_of : meB K C_Outcomes f62 "powers_of" = true)
    (mE_Outcomes_product_of : PySem.W.findIn K (.ref C_Outcomes) "product_of" = some (some (.ref f58)))
    (mB_Outcomes_product_of : meB K C_Outcomes f58 "product_of" = true)
    (mE_Outcomes_products : PySem.W.findIn K (.ref C_Outcomes) "products" = some (some (.ref f56)))
    (mB_Outcomes_products : meB K C_Outcomes f56 "products" = true)
    (mE_Outcomes_put_in : PySem.W.findIn K (.ref C_Outcomes) "put_in" = some (some (.ref f66)))
    (mB_Outcomes_put_in : meB K C_Outcomes f66 "put_in" = true)
    (mE_Outcomes_rows_made : PySem.W.findIn K (.ref C_Outcomes) "rows_made" = some (some (.ref f65)))
    (mB_Outcomes_rows_made : meB K C_Outcomes f65 "rows_made" = true)
    (mE_Outcomes_rows_put_in : PySem.W.findIn K (.ref C_Outcomes) "rows_put_in" = some (some (.ref f67)))
    (mB_Outcomes_rows_put_in : meB K C_Outcomes f67 "rows_put_in" = true)
    (mE_Outcomes_stars : PySem.W.findIn K (.ref C_Outcomes) "stars" = some (some (.ref f63)))
    (mB_Outcomes_stars : meB K C_Outcomes f63 "stars" = true)
    (mE_Outcomes_sum_of : PySem.W.findIn K (.ref C_Outcomes) "sum_of" = some (some (.ref f60)))
    (mB_Outcomes_sum_of : meB K C_Outcomes f60 "sum_of" = true)
    (mE_Outcomes_sums : PySem.W.findIn K (.ref C_Outcomes) "sums" = some (some (.ref f64)))
    (mB_Outcomes_sums : meB K C_Outcomes f64 "sums" = true)
    (mE_Outcomes_with_paths : PySem.W.findIn K (.ref C_Outcomes) "with_paths" = some (some (.ref f61)))
    (mB_Outcomes_with_paths : meB K C_Outcomes f61 "with_paths" = true)
    (tI_BadGrid___init__ : PySem.W.typeIn K (.ref f22) = some (.type "function"))
    (tI_BadScript___init__ : PySem.W.typeIn K (.ref f32) = some (.type "function"))
    (tI_GridError___init__ : PySem.W.typeIn K (.ref f40) = some (.type "function"))
    (nA_Grid_bases : PySem.W.findIn K (.ref C_Grid) "bases" = some none)
    (nA_Grid_rows : PySem.W.findIn K (.ref C_Grid) "rows" = some none)
    (nA_Script_grids : PySem.W.findIn K (.ref C_Script) "grids" = some none)
    (nA_Script_steps : PySem.W.findIn K (.ref C_Script) "steps" = some none)
    (nA_Script_shapes : PySem.W.findIn K (.ref C_Script) "shapes" = some none)
    (nA_Outcomes_nought : PySem.W.findIn K (.ref C_Outcomes) "nought" = some none)
    (nA_Outcomes_numbers : PySem.W.findIn K (.ref C_Outcomes) "numbers" = some none)
    (nx_BadGrid_part : PySem.W.findIn K (.ref C_BadGrid) "part" = some none)
    (nx_BadScript_part : PySem.W.findIn K (.ref C_BadScript) "part" = some none)
    (v_VE : PySem.W.findCls K (.type "ValueError") (.type "type") "__init__" = some (.val (.builtin "ValueError.__init__")))
    (l0 : K.lookup f0 = some ⟨oc0, od0, .func (PySem.W.fnOf "_law_start" "_law_start" (defArgs s__law_start) (defBody s__law_start) (defScope s__law_start) .none kV0 dc0 pm0 an0 cd0 ct0), sl0⟩)
    (c0 : PySem.W.codeIn K cd0 "_law_start" = true)
    (k0 : PySem.W.keepIn K (.ref f0) = true)
    (l1 : K.lookup f1 = some ⟨oc1, od1, .func (PySem.W.fnOf "_law_pick" "_law_pick" (defArgs s__law_pick) (defBody s__law_pick) (defScope s__law_pick) .none kV1 dc1 pm1 an1 cd1 ct1), sl1⟩)
    (c1 : PySem.W.codeIn K cd1 "_law_pick" = true)
    (k1 : PySem.W.keepIn K (.ref f1) = true)
    (l2 : K.lookup f2 = some ⟨oc2, od2, .func (PySem.W.fnOf "_law_vector" "_law_vector" (defArgs s__law_vector) (defBody s__law_vector) (defScope s__law_vector) .none kV2 dc2 pm2 an2 cd2 ct2), sl2⟩)
    (c2 : PySem.W.codeIn K cd2 "_law_vector" = true)
    (k2 : PySem.W.keepIn K (.ref f2) = true)
    (l3 : K.lookup f3 = some ⟨oc3, od3, .func (PySem.W.fnOf "_law_cell" "_law_cell" (defArgs s__law_cell) (defBody s__law_cell) (defScope s__law_cell) .none kV3 dc3 pm3 an3 cd3 ct3), sl3⟩)
    (c3 : PySem.W.codeIn K cd3 "_law_cell" = true)
    (k3 : PySem.W.keepIn K (.ref f3) = true)
    (l4 : K.lookup f4 = some ⟨oc4, od4, .func (PySem.W.fnOf "_law_row" "_law_row" (defArgs s__law_row) (defBody s__law_row) (defScope s__law_row) .none kV4 dc4 pm4 an4 cd4 ct4), sl4⟩)
    (c4 : PySem.W.codeIn K cd4 "_law_row" = true)
    (k4 : PySem.W.keepIn K (.ref f4) = true)
    (l5 : K.lookup f5 = some ⟨oc5, od5, .func (PySem.W.fnOf "_law_grids" "_law_grids" (defArgs s__law_grids) (defBody s__law_grids) (defScope s__law_grids) .none kV5 dc5 pm5 an5 cd5 ct5), sl5⟩)
    (c5 : PySem.W.codeIn K cd5 "_law_grids" = true)
    (k5 : PySem.W.keepIn K (.ref f5) = true)
    (l6 : K.lookup f6 = some ⟨oc6, od6, .func (PySem.W.fnOf "_law_shape" "_law_shape" (defArgs s__law_shape) (defBody s__law_shape) (defScope s__law_shape) .none kV6 dc6 pm6 an6 cd6 ct6), sl6⟩)
    (c6 : PySem.W.codeIn K cd6 "_law_shape" = true)
    (k6 : PySem.W.keepIn K (.ref f6) = true)
    (l7 : K.lookup f7 = some ⟨oc7, od7, .func (PySem.W.fnOf "_law_step" "_law_step" (defArgs s__law_step) (defBody s__law_step) (defScope s__law_step) .none kV7 dc7 pm7 an7 cd7 ct7), sl7⟩)
    (c7 : PySem.W.codeIn K cd7 "_law_step" = true)
    (k7 : PySem.W.keepIn K (.ref f7) = true)
    (l8 : K.lookup f8 = some ⟨oc8, od8, .func (PySem.W.fnOf "_law_world" "_law_world" (defArgs s__law_world) (defBody s__law_world) (defScope s__law_world) .none kV8 dc8 pm8 an8 cd8 ct8), sl8⟩)
    (c8 : PySem.W.codeIn K cd8 "_law_world" = true)
    (k8 : PySem.W.keepIn K (.ref f8) = true)
    (l9 : K.lookup f9 = some ⟨oc9, od9, .func (PySem.W.fnOf "_law_lowest" "_law_lowest" (defArgs s__law_lowest) (defBody s__law_lowest) (defScope s__law_lowest) .none kV9 dc9 pm9 an9 cd9 ct9), sl9⟩)
    (c9 : PySem.W.codeIn K cd9 "_law_lowest" = true)
    (k9 : PySem.W.keepIn K (.ref f9) = true)
    (l10 : K.lookup f10 = some ⟨oc10, od10, .func (PySem.W.fnOf "_law_number" "_law_number" (defArgs s__law_number) (defBody s__law_number) (defScope s__law_number) .none kV10 dc10 pm10 an10 cd10 ct10), sl10⟩)
    (c10 : PySem.W.codeIn K cd10 "_law_number" = true)
    (k10 : PySem.W.keepIn K (.ref f10) = true)
    (l11 : K.lookup f11 = some ⟨oc11, od11, .func (PySem.W.fnOf "_law_numbers" "_law_numbers" (defArgs s__law_numbers) (defBody s__law_numbers) (defScope s__law_numbers) .none kV11 dc11 pm11 an11 cd11 ct11), sl11⟩)
    (c11 : PySem.W.codeIn K cd11 "_law_numbers" = true)
    (k11 : PySem.W.keepIn K (.ref f11) = true)
    (l12 : K.lookup f12 = some ⟨oc12, od12, .func (PySem.W.fnOf "_law_values" "_law_values" (defArgs s__law_values) (defBody s__law_values) (defScope s__law_values) .none kV12 dc12 pm12 an12 cd12 ct12), sl12⟩)
    (c12 : PySem.W.codeIn K cd12 "_law_values" = true)
    (k12 : PySem.W.keepIn K (.ref f12) = true)
    (l13 : K.lookup f13 = some ⟨oc13, od13, .func (PySem.W.fnOf "_law_unit" "_law_unit" (defArgs s__law_unit) (defBody s__law_unit) (defScope s__law_unit) .none kV13 dc13 pm13 an13 cd13 ct13), sl13⟩)
    (c13 : PySem.W.codeIn K cd13 "_law_unit" = true)
    (k13 : PySem.W.keepIn K (.ref f13) = true)
    (l14 : K.lookup f14 = some ⟨oc14, od14, .func (PySem.W.fnOf "_has_grid_length" "_has_grid_length" (defArgs s__has_grid_length) (defBody s__has_grid_length) (defScope s__has_grid_length) .none kV14 dc14 pm14 an14 cd14 ct14), sl14⟩)
    (c14 : PySem.W.codeIn K cd14 "_has_grid_length" = true)
    (k14 : PySem.W.keepIn K (.ref f14) = true)
    (l15 : K.lookup f15 = some ⟨oc15, od15, .func (PySem.W.fnOf "is_whole" "is_whole" (defArgs s_is_whole) (defBody s_is_whole) (defScope s_is_whole) .none kV15 dc15 pm15 an15 cd15 ct15), sl15⟩)
    (c15 : PySem.W.codeIn K cd15 "is_whole" = true)
    (k15 : PySem.W.keepIn K (.ref f15) = true)
    (l16 : K.lookup f16 = some ⟨oc16, od16, .func (PySem.W.fnOf "is_pair" "is_pair" (defArgs s_is_pair) (defBody s_is_pair) (defScope s_is_pair) .none kV16 dc16 pm16 an16 cd16 ct16), sl16⟩)
    (c16 : PySem.W.codeIn K cd16 "is_pair" = true)
    (k16 : PySem.W.keepIn K (.ref f16) = true)
    (l17 : K.lookup f17 = some ⟨oc17, od17, .func (PySem.W.fnOf "is_fraction" "is_fraction" (defArgs s_is_fraction) (defBody s_is_fraction) (defScope s_is_fraction) .none kV17 dc17 pm17 an17 cd17 ct17), sl17⟩)
    (c17 : PySem.W.codeIn K cd17 "is_fraction" = true)
    (k17 : PySem.W.keepIn K (.ref f17) = true)
    (l18 : K.lookup f18 = some ⟨oc18, od18, .func (PySem.W.fnOf "is_any_unit" "is_any_unit" (defArgs s_is_any_unit) (defBody s_is_any_unit) (defScope s_is_any_unit) .none kV18 dc18 pm18 an18 cd18 ct18), sl18⟩)
    (c18 : PySem.W.codeIn K cd18 "is_any_unit" = true)
    (k18 : PySem.W.keepIn K (.ref f18) = true)
    (l19 : K.lookup f19 = some ⟨oc19, od19, .func (PySem.W.fnOf "is_unit" "is_unit" (defArgs s_is_unit) (defBody s_is_unit) (defScope s_is_unit) .none kV19 dc19 pm19 an19 cd19 ct19), sl19⟩)
    (c19 : PySem.W.codeIn K cd19 "is_unit" = true)
    (k19 : PySem.W.keepIn K (.ref f19) = true)
    (l20 : K.lookup f20 = some ⟨oc20, od20, .func (PySem.W.fnOf "is_cell" "is_cell" (defArgs s_is_cell) (defBody s_is_cell) (defScope s_is_cell) .none kV20 dc20 pm20 an20 cd20 ct20), sl20⟩)
    (c20 : PySem.W.codeIn K cd20 "is_cell" = true)
    (k20 : PySem.W.keepIn K (.ref f20) = true)
    (l21 : K.lookup f21 = some ⟨oc21, od21, .func (PySem.W.fnOf "_wrong_part" "_wrong_part" (defArgs s__wrong_part) (defBody s__wrong_part) (defScope s__wrong_part) .none kV21 dc21 pm21 an21 cd21 ct21), sl21⟩)
    (c21 : PySem.W.codeIn K cd21 "_wrong_part" = true)
    (k21 : PySem.W.keepIn K (.ref f21) = true)
    (l22 : K.lookup f22 = some ⟨oc22, od22, .func (PySem.W.fnOf "__init__" "BadGrid.__init__" (defArgs s_BadGrid___init__) (defBody s_BadGrid___init__) (defScope s_BadGrid___init__) .none kV22 dc22 pm22 an22 cd22 ct22), sl22⟩)
    (c22 : PySem.W.codeIn K cd22 "BadGrid.__init__" = true)
    (k22 : PySem.W.keepIn K (.ref f22) = true)
    (l23 : K.lookup f23 = some ⟨oc23, od23, .func (PySem.W.fnOf "__init__" "Grid.__init__" (defArgs s_Grid___init__) (defBody s_Grid___init__) (defScope s_Grid___init__) .none kV23 dc23 pm23 an23 cd23 ct23), sl23⟩)
    (c23 : PySem.W.codeIn K cd23 "Grid.__init__" = true)
    (k23 : PySem.W.keepIn K (.ref f23) = true)
    (l24 : K.lookup f24 = some ⟨oc24, od24, .func (PySem.W.fnOf "_law_grid" "_law_grid" (defArgs s__law_grid) (defBody s__law_grid) (defScope s__law_grid) .none kV24 dc24 pm24 an24 cd24 ct24), sl24⟩)
    (c24 : PySem.W.codeIn K cd24 "_law_grid" = true)
    (k24 : PySem.W.keepIn K (.ref f24) = true)
    (l25 : K.lookup f25 = some ⟨oc25, od25, .func (PySem.W.fnOf "_shape_of_two" "_shape_of_two" (defArgs s__shape_of_two) (defBody s__shape_of_two) (defScope s__shape_of_two) .none kV25 dc25 pm25 an25 cd25 ct25), sl25⟩)
    (c25 : PySem.W.codeIn K cd25 "_shape_of_two" = true)
    (k25 : PySem.W.keepIn K (.ref f25) = true)
    (l26 : K.lookup f26 = some ⟨oc26, od26, .func (PySem.W.fnOf "_piece_shape" "_piece_shape" (defArgs s__piece_shape) (defBody s__piece_shape) (defScope s__piece_shape) .none kV26 dc26 pm26 an26 cd26 ct26), sl26⟩)
    (c26 : PySem.W.codeIn K cd26 "_piece_shape" = true)
    (k26 : PySem.W.keepIn K (.ref f26) = true)
    (l27 : K.lookup f27 = some ⟨oc27, od27, .func (PySem.W.fnOf "_fitting_shape" "_fitting_shape" (defArgs s__fitting_shape) (defBody s__fitting_shape) (defScope s__fitting_shape) .none kV27 dc27 pm27 an27 cd27 ct27), sl27⟩)
    (c27 : PySem.W.codeIn K cd27 "_fitting_shape" = true)
    (k27 : PySem.W.keepIn K (.ref f27) = true)
    (l28 : K.lookup f28 = some ⟨oc28, od28, .func (PySem.W.fnOf "is_index" "is_index" (defArgs s_is_index) (defBody s_is_index) (defScope s_is_index) .none kV28 dc28 pm28 an28 cd28 ct28), sl28⟩)
    (c28 : PySem.W.codeIn K cd28 "is_index" = true)
    (k28 : PySem.W.keepIn K (.ref f28) = true)
    (l29 : K.lookup f29 = some ⟨oc29, od29, .func (PySem.W.fnOf "sources" "sources" (defArgs s_sources) (defBody s_sources) (defScope s_sources) .none kV29 dc29 pm29 an29 cd29 ct29), sl29⟩)
    (c29 : PySem.W.codeIn K cd29 "sources" = true)
    (k29 : PySem.W.keepIn K (.ref f29) = true)
    (l30 : K.lookup f30 = some ⟨oc30, od30, .func (PySem.W.fnOf "is_step" "is_step" (defArgs s_is_step) (defBody s_is_step) (defScope s_is_step) .none kV30 dc30 pm30 an30 cd30 ct30), sl30⟩)
    (c30 : PySem.W.codeIn K cd30 "is_step" = true)
    (k30 : PySem.W.keepIn K (.ref f30) = true)
    (l31 : K.lookup f31 = some ⟨oc31, od31, .func (PySem.W.fnOf "made_shape" "made_shape" (defArgs s_made_shape) (defBody s_made_shape) (defScope s_made_shape) .none kV31 dc31 pm31 an31 cd31 ct31), sl31⟩)
    (c31 : PySem.W.codeIn K cd31 "made_shape" = true)
    (k31 : PySem.W.keepIn K (.ref f31) = true)
    (l32 : K.lookup f32 = some ⟨oc32, od32, .func (PySem.W.fnOf "__init__" "BadScript.__init__" (defArgs s_BadScript___init__) (defBody s_BadScript___init__) (defScope s_BadScript___init__) .none kV32 dc32 pm32 an32 cd32 ct32), sl32⟩)
    (c32 : PySem.W.codeIn K cd32 "BadScript.__init__" = true)
    (k32 : PySem.W.keepIn K (.ref f32) = true)
    (l33 : K.lookup f33 = some ⟨oc33, od33, .func (PySem.W.fnOf "_shapes_made" "_shapes_made" (defArgs s__shapes_made) (defBody s__shapes_made) (defScope s__shapes_made) .none kV33 dc33 pm33 an33 cd33 ct33), sl33⟩)
    (c33 : PySem.W.codeIn K cd33 "_shapes_made" = true)
    (k33 : PySem.W.keepIn K (.ref f33) = true)
    (l34 : K.lookup f34 = some ⟨oc34, od34, .func (PySem.W.fnOf "_are_grids" "_are_grids" (defArgs s__are_grids) (defBody s__are_grids) (defScope s__are_grids) .none kV34 dc34 pm34 an34 cd34 ct34), sl34⟩)
    (c34 : PySem.W.codeIn K cd34 "_are_grids" = true)
    (k34 : PySem.W.keepIn K (.ref f34) = true)
    (l35 : K.lookup f35 = some ⟨oc35, od35, .func (PySem.W.fnOf "_shape_put_in" "_shape_put_in" (defArgs s__shape_put_in) (defBody s__shape_put_in) (defScope s__shape_put_in) .none kV35 dc35 pm35 an35 cd35 ct35), sl35⟩)
    (c35 : PySem.W.codeIn K cd35 "_shape_put_in" = true)
    (k35 : PySem.W.keepIn K (.ref f35) = true)
    (l36 : K.lookup f36 = some ⟨oc36, od36, .func (PySem.W.fnOf "__init__" "Script.__init__" (defArgs s_Script___init__) (defBody s_Script___init__) (defScope s_Script___init__) .none kV36 dc36 pm36 an36 cd36 ct36), sl36⟩)
    (c36 : PySem.W.codeIn K cd36 "Script.__init__" = true)
    (k36 : PySem.W.keepIn K (.ref f36) = true)
    (l37 : K.lookup f37 = some ⟨oc37, od37, .func (PySem.W.fnOf "_law_script" "_law_script" (defArgs s__law_script) (defBody s__law_script) (defScope s__law_script) .none kV37 dc37 pm37 an37 cd37 ct37), sl37⟩)
    (c37 : PySem.W.codeIn K cd37 "_law_script" = true)
    (k37 : PySem.W.keepIn K (.ref f37) = true)
    (l38 : K.lookup f38 = some ⟨oc38, od38, .func (PySem.W.fnOf "_law_words" "_law_words" (defArgs s__law_words) (defBody s__law_words) (defScope s__law_words) .none kV38 dc38 pm38 an38 cd38 ct38), sl38⟩)
    (c38 : PySem.W.codeIn K cd38 "_law_words" = true)
    (k38 : PySem.W.keepIn K (.ref f38) = true)
    (l39 : K.lookup f39 = some ⟨oc39, od39, .func (PySem.W.fnOf "many_grids" "many_grids" (defArgs s_many_grids) (defBody s_many_grids) (defScope s_many_grids) .none kV39 dc39 pm39 an39 cd39 ct39), sl39⟩)
    (c39 : PySem.W.codeIn K cd39 "many_grids" = true)
    (k39 : PySem.W.keepIn K (.ref f39) = true)
    (l40 : K.lookup f40 = some ⟨oc40, od40, .func (PySem.W.fnOf "__init__" "GridError.__init__" (defArgs s_GridError___init__) (defBody s_GridError___init__) (defScope s_GridError___init__) .none kV40 dc40 pm40 an40 cd40 ct40), sl40⟩)
    (c40 : PySem.W.codeIn K cd40 "GridError.__init__" = true)
    (k40 : PySem.W.keepIn K (.ref f40) = true)
    (l41 : K.lookup f41 = some ⟨oc41, od41, .func (PySem.W.fnOf "check_grid" "check_grid" (defArgs s_check_grid) (defBody s_check_grid) (defScope s_check_grid) .none kV41 dc41 pm41 an41 cd41 ct41), sl41⟩)
    (c41 : PySem.W.codeIn K cd41 "check_grid" = true)
    (k41 : PySem.W.keepIn K (.ref f41) = true)
    (l42 : K.lookup f42 = some ⟨oc42, od42, .func (PySem.W.fnOf "_beside_cells" "_beside_cells" (defArgs s__beside_cells) (defBody s__beside_cells) (defScope s__beside_cells) .none kV42 dc42 pm42 an42 cd42 ct42), sl42⟩)
    (c42 : PySem.W.codeIn K cd42 "_beside_cells" = true)
    (k42 : PySem.W.keepIn K (.ref f42) = true)
    (l43 : K.lookup f43 = some ⟨oc43, od43, .func (PySem.W.fnOf "_has_shape" "_has_shape" (defArgs s__has_shape) (defBody s__has_shape) (defScope s__has_shape) .none kV43 dc43 pm43 an43 cd43 ct43), sl43⟩)
    (c43 : PySem.W.codeIn K cd43 "_has_shape" = true)
    (k43 : PySem.W.keepIn K (.ref f43) = true)
    (l44 : K.lookup f44 = some ⟨oc44, od44, .func (PySem.W.fnOf "_is_number_for" "_is_number_for" (defArgs s__is_number_for) (defBody s__is_number_for) (defScope s__is_number_for) .none kV44 dc44 pm44 an44 cd44 ct44), sl44⟩)
    (c44 : PySem.W.codeIn K cd44 "_is_number_for" = true)
    (k44 : PySem.W.keepIn K (.ref f44) = true)
    (l45 : K.lookup f45 = some ⟨oc45, od45, .func (PySem.W.fnOf "are_numbers" "are_numbers" (defArgs s_are_numbers) (defBody s_are_numbers) (defScope s_are_numbers) .none kV45 dc45 pm45 an45 cd45 ct45), sl45⟩)
    (c45 : PySem.W.codeIn K cd45 "are_numbers" = true)
    (k45 : PySem.W.keepIn K (.ref f45) = true)
    (l46 : K.lookup f46 = some ⟨oc46, od46, .func (PySem.W.fnOf "is_above_nought" "is_above_nought" (defArgs s_is_above_nought) (defBody s_is_above_nought) (defScope s_is_above_nought) .none kV46 dc46 pm46 an46 cd46 ct46), sl46⟩)
    (c46 : PySem.W.codeIn K cd46 "is_above_nought" = true)
    (k46 : PySem.W.keepIn K (.ref f46) = true)
    (l47 : K.lookup f47 = some ⟨oc47, od47, .func (PySem.W.fnOf "are_values" "are_values" (defArgs s_are_values) (defBody s_are_values) (defScope s_are_values) .none kV47 dc47 pm47 an47 cd47 ct47), sl47⟩)
    (c47 : PySem.W.codeIn K cd47 "are_values" = true)
    (k47 : PySem.W.keepIn K (.ref f47) = true)
    (l48 : K.lookup f48 = some ⟨oc48, od48, .func (PySem.W.fnOf "are_all_values" "are_all_values" (defArgs s_are_all_values) (defBody s_are_all_values) (defScope s_are_all_values) .none kV48 dc48 pm48 an48 cd48 ct48), sl48⟩)
    (c48 : PySem.W.codeIn K cd48 "are_all_values" = true)
    (k48 : PySem.W.keepIn K (.ref f48) = true)
    (l49 : K.lookup f49 = some ⟨oc49, od49, .func (PySem.W.fnOf "__init__" "Outcomes.__init__" (defArgs s_Outcomes___init__) (defBody s_Outcomes___init__) (defScope s_Outcomes___init__) .none kV49 dc49 pm49 an49 cd49 ct49), sl49⟩)
    (c49 : PySem.W.codeIn K cd49 "Outcomes.__init__" = true)
    (k49 : PySem.W.keepIn K (.ref f49) = true)
    (l50 : K.lookup f50 = some ⟨oc50, od50, .func (PySem.W.fnOf "leading" "leading" (defArgs s_leading) (defBody s_leading) (defScope s_leading) .none kV50 dc50 pm50 an50 cd50 ct50), sl50⟩)
    (c50 : PySem.W.codeIn K cd50 "leading" = true)
    (k50 : PySem.W.keepIn K (.ref f50) = true)
    (l51 : K.lookup f51 = some ⟨oc51, od51, .func (PySem.W.fnOf "turned" "turned" (defArgs s_turned) (defBody s_turned) (defScope s_turned) .none kV51 dc51 pm51 an51 cd51 ct51), sl51⟩)
    (c51 : PySem.W.codeIn K cd51 "turned" = true)
    (k51 : PySem.W.keepIn K (.ref f51) = true)
    (l52 : K.lookup f52 = some ⟨oc52, od52, .func (PySem.W.fnOf "moved" "moved" (defArgs s_moved) (defBody s_moved) (defScope s_moved) .none kV52 dc52 pm52 an52 cd52 ct52), sl52⟩)
    (c52 : PySem.W.codeIn K cd52 "moved" = true)
    (k52 : PySem.W.keepIn K (.ref f52) = true)
    (l53 : K.lookup f53 = some ⟨oc53, od53, .func (PySem.W.fnOf "lowest" "lowest" (defArgs s_lowest) (defBody s_lowest) (defScope s_lowest) .none kV53 dc53 pm53 an53 cd53 ct53), sl53⟩)
    (c53 : PySem.W.codeIn K cd53 "lowest" = true)
    (k53 : PySem.W.keepIn K (.ref f53) = true)
    (l54 : K.lookup f54 = some ⟨oc54, od54, .func (PySem.W.fnOf "sum_of_products" "sum_of_products" (defArgs s_sum_of_products) (defBody s_sum_of_products) (defScope s_sum_of_products) .none kV54 dc54 pm54 an54 cd54 ct54), sl54⟩)
    (c54 : PySem.W.codeIn K cd54 "sum_of_products" = true)
    (k54 : PySem.W.keepIn K (.ref f54) = true)
    (l55 : K.lookup f55 = some ⟨oc55, od55, .func (PySem.W.fnOf "inner" "Outcomes.inner" (defArgs s_Outcomes_inner) (defBody s_Outcomes_inner) (defScope s_Outcomes_inner) .none kV55 dc55 pm55 an55 cd55 ct55), sl55⟩)
    (c55 : PySem.W.codeIn K cd55 "Outcomes.inner" = true)
    (k55 : PySem.W.keepIn K (.ref f55) = true)
    (l56 : K.lookup f56 = some ⟨oc56, od56, .func (PySem.W.fnOf "products" "Cells.products" (defArgs s_Cells_products) (defBody s_Cells_products) (defScope s_Cells_products) .none kV56 dc56 pm56 an56 cd56 ct56), sl56⟩)
    (c56 : PySem.W.codeIn K cd56 "Cells.products" = true)
    (k56 : PySem.W.keepIn K (.ref f56) = true)
    (l57 : K.lookup f57 = some ⟨oc57, od57, .func (PySem.W.fnOf "times" "times" (defArgs s_times) (defBody s_times) (defScope s_times) .none kV57 dc57 pm57 an57 cd57 ct57), sl57⟩)
    (c57 : PySem.W.codeIn K cd57 "times" = true)
    (k57 : PySem.W.keepIn K (.ref f57) = true)
    (l58 : K.lookup f58 = some ⟨oc58, od58, .func (PySem.W.fnOf "product_of" "Outcomes.product_of" (defArgs s_Outcomes_product_of) (defBody s_Outcomes_product_of) (defScope s_Outcomes_product_of) .none kV58 dc58 pm58 an58 cd58 ct58), sl58⟩)
    (c58 : PySem.W.codeIn K cd58 "Outcomes.product_of" = true)
    (k58 : PySem.W.keepIn K (.ref f58) = true)
    (l59 : K.lookup f59 = some ⟨oc59, od59, .func (PySem.W.fnOf "plus" "plus" (defArgs s_plus) (defBody s_plus) (defScope s_plus) .none kV59 dc59 pm59 an59 cd59 ct59), sl59⟩)
    (c59 : PySem.W.codeIn K cd59 "plus" = true)
    (k59 : PySem.W.keepIn K (.ref f59) = true)
    (l60 : K.lookup f60 = some ⟨oc60, od60, .func (PySem.W.fnOf "sum_of" "Outcomes.sum_of" (defArgs s_Outcomes_sum_of) (defBody s_Outcomes_sum_of) (defScope s_Outcomes_sum_of) .none kV60 dc60 pm60 an60 cd60 ct60), sl60⟩)
    (c60 : PySem.W.codeIn K cd60 "Outcomes.sum_of" = true)
    (k60 : PySem.W.keepIn K (.ref f60) = true)
    (l61 : K.lookup f61 = some ⟨oc61, od61, .func (PySem.W.fnOf "with_paths" "Cells.with_paths" (defArgs s_Cells_with_paths) (defBody s_Cells_with_paths) (defScope s_Cells_with_paths) .none kV61 dc61 pm61 an61 cd61 ct61), sl61⟩)
    (c61 : PySem.W.codeIn K cd61 "Cells.with_paths" = true)
    (k61 : PySem.W.keepIn K (.ref f61) = true)
    (l62 : K.lookup f62 = some ⟨oc62, od62, .func (PySem.W.fnOf "powers_of" "Outcomes.powers_of" (defArgs s_Outcomes_powers_of) (defBody s_Outcomes_powers_of) (defScope s_Outcomes_powers_of) .none kV62 dc62 pm62 an62 cd62 ct62), sl62⟩)
    (c62 : PySem.W.codeIn K cd62 "Outcomes.powers_of" = true)
    (k62 : PySem.W.keepIn K (.ref f62) = true)
    (l63 : K.lookup f63 = some ⟨oc63, od63, .func (PySem.W.fnOf "stars" "Cells.stars" (defArgs s_Cells_stars) (defBody s_Cells_stars) (defScope s_Cells_stars) .none kV63 dc63 pm63 an63 cd63 ct63), sl63⟩)
    (c63 : PySem.W.codeIn K cd63 "Cells.stars" = true)
    (k63 : PySem.W.keepIn K (.ref f63) = true)
    (l64 : K.lookup f64 = some ⟨oc64, od64, .func (PySem.W.fnOf "sums" "Cells.sums" (defArgs s_Cells_sums) (defBody s_Cells_sums) (defScope s_Cells_sums) .none kV64 dc64 pm64 an64 cd64 ct64), sl64⟩)
    (c64 : PySem.W.codeIn K cd64 "Cells.sums" = true)
    (k64 : PySem.W.keepIn K (.ref f64) = true)
    (l65 : K.lookup f65 = some ⟨oc65, od65, .func (PySem.W.fnOf "rows_made" "Cells.rows_made" (defArgs s_Cells_rows_made) (defBody s_Cells_rows_made) (defScope s_Cells_rows_made) .none kV65 dc65 pm65 an65 cd65 ct65), sl65⟩)
    (c65 : PySem.W.codeIn K cd65 "Cells.rows_made" = true)
    (k65 : PySem.W.keepIn K (.ref f65) = true)
    (l66 : K.lookup f66 = some ⟨oc66, od66, .func (PySem.W.fnOf "put_in" "Outcomes.put_in" (defArgs s_Outcomes_put_in) (defBody s_Outcomes_put_in) (defScope s_Outcomes_put_in) .none kV66 dc66 pm66 an66 cd66 ct66), sl66⟩)
    (c66 : PySem.W.codeIn K cd66 "Outcomes.put_in" = true)
    (k66 : PySem.W.keepIn K (.ref f66) = true)
    (l67 : K.lookup f67 = some ⟨oc67, od67, .func (PySem.W.fnOf "rows_put_in" "Cells.rows_put_in" (defArgs s_Cells_rows_put_in) (defBody s_Cells_rows_put_in) (defScope s_Cells_rows_put_in) .none kV67 dc67 pm67 an67 cd67 ct67), sl67⟩)
    (c67 : PySem.W.codeIn K cd67 "Cells.rows_put_in" = true)
    (k67 : PySem.W.keepIn K (.ref f67) = true)
    (l68 : K.lookup f68 = some ⟨oc68, od68, .func (PySem.W.fnOf "grids_of" "Cells.grids_of" (defArgs s_Cells_grids_of) (defBody s_Cells_grids_of) (defScope s_Cells_grids_of) .none kV68 dc68 pm68 an68 cd68 ct68), sl68⟩)
    (c68 : PySem.W.codeIn K cd68 "Cells.grids_of" = true)
    (k68 : PySem.W.keepIn K (.ref f68) = true)
    (l69 : K.lookup f69 = some ⟨oc69, od69, .func (PySem.W.fnOf "grids_to" "Cells.grids_to" (defArgs s_Cells_grids_to) (defBody s_Cells_grids_to) (defScope s_Cells_grids_to) .none kV69 dc69 pm69 an69 cd69 ct69), sl69⟩)
    (c69 : PySem.W.codeIn K cd69 "Cells.grids_to" = true)
    (k69 : PySem.W.keepIn K (.ref f69) = true)
    (l70 : K.lookup f70 = some ⟨oc70, od70, .func (PySem.W.fnOf "outcome" "outcome" (defArgs s_outcome) (defBody s_outcome) (defScope s_outcome) .none kV70 dc70 pm70 an70 cd70 ct70), sl70⟩)
    (c70 : PySem.W.codeIn K cd70 "outcome" = true)
    (k70 : PySem.W.keepIn K (.ref f70) = true)
    (l71 : K.lookup f71 = some ⟨oc71, od71, .func (PySem.W.fnOf "_law_is_fraction" "_law_is_fraction" (defArgs s__law_is_fraction) (defBody s__law_is_fraction) (defScope s__law_is_fraction) .none kV71 dc71 pm71 an71 cd71 ct71), sl71⟩)
    (c71 : PySem.W.codeIn K cd71 "_law_is_fraction" = true)
    (k71 : PySem.W.keepIn K (.ref f71) = true)
    (l72 : K.lookup f72 = some ⟨oc72, od72, .func (PySem.W.fnOf "_law_are_rows" "_law_are_rows" (defArgs s__law_are_rows) (defBody s__law_are_rows) (defScope s__law_are_rows) .none kV72 dc72 pm72 an72 cd72 ct72), sl72⟩)
    (c72 : PySem.W.codeIn K cd72 "_law_are_rows" = true)
    (k72 : PySem.W.keepIn K (.ref f72) = true)
    (l73 : K.lookup f73 = some ⟨oc73, od73, .func (PySem.W.fnOf "_law_source" "_law_source" (defArgs s__law_source) (defBody s__law_source) (defScope s__law_source) .none kV73 dc73 pm73 an73 cd73 ct73), sl73⟩)
    (c73 : PySem.W.codeIn K cd73 "_law_source" = true)
    (k73 : PySem.W.keepIn K (.ref f73) = true)
    (l74 : K.lookup f74 = some ⟨oc74, od74, .func (PySem.W.fnOf "_law_plus" "_law_plus" (defArgs s__law_plus) (defBody s__law_plus) (defScope s__law_plus) .none kV74 dc74 pm74 an74 cd74 ct74), sl74⟩)
    (c74 : PySem.W.codeIn K cd74 "_law_plus" = true)
    (k74 : PySem.W.keepIn K (.ref f74) = true)
    (l75 : K.lookup f75 = some ⟨oc75, od75, .func (PySem.W.fnOf "_law_times" "_law_times" (defArgs s__law_times) (defBody s__law_times) (defScope s__law_times) .none kV75 dc75 pm75 an75 cd75 ct75), sl75⟩)
    (c75 : PySem.W.codeIn K cd75 "_law_times" = true)
    (k75 : PySem.W.keepIn K (.ref f75) = true)
    (l76 : K.lookup f76 = some ⟨oc76, od76, .func (PySem.W.fnOf "_law_cell_of" "_law_cell_of" (defArgs s__law_cell_of) (defBody s__law_cell_of) (defScope s__law_cell_of) .none kV76 dc76 pm76 an76 cd76 ct76), sl76⟩)
    (c76 : PySem.W.codeIn K cd76 "_law_cell_of" = true)
    (k76 : PySem.W.keepIn K (.ref f76) = true)
    (l77 : K.lookup f77 = some ⟨oc77, od77, .func (PySem.W.fnOf "_law_due" "_law_due" (defArgs s__law_due) (defBody s__law_due) (defScope s__law_due) .none kV77 dc77 pm77 an77 cd77 ct77), sl77⟩)
    (c77 : PySem.W.codeIn K cd77 "_law_due" = true)
    (k77 : PySem.W.keepIn K (.ref f77) = true)
    (l78 : K.lookup f78 = some ⟨oc78, od78, .func (PySem.W.fnOf "law" "law" (defArgs s_law) (defBody s_law) (defScope s_law) .none kV78 dc78 pm78 an78 cd78 ct78), sl78⟩)
    (c78 : PySem.W.codeIn K cd78 "law" = true)
    (k78 : PySem.W.keepIn K (.ref f78) = true)
    (c_ENDLESS : PySem.W.nsIn K mainGlobals "ENDLESS" = some (some (.str "endless" t_ENDLESS)))
    (c_LENGTH_OF_TWO : PySem.W.nsIn K mainGlobals "LENGTH_OF_TWO" = some (some (.int 3 t_LENGTH_OF_TWO)))
    (c_MOST_BASES : PySem.W.nsIn K mainGlobals "MOST_BASES" = some (some (.int 3 t_MOST_BASES)))
    (c_MOST_BOTTOM : PySem.W.nsIn K mainGlobals "MOST_BOTTOM" = some (some (.int 4 t_MOST_BOTTOM)))
    (c_MOST_GRIDS : PySem.W.nsIn K mainGlobals "MOST_GRIDS" = some (some (.int 6 t_MOST_GRIDS)))
    (c_MOST_MADE : PySem.W.nsIn K mainGlobals "MOST_MADE" = some (some (.int 12 t_MOST_MADE)))
    (c_MOST_ROWS : PySem.W.nsIn K mainGlobals "MOST_ROWS" = some (some (.int 10 t_MOST_ROWS)))
    (c_MOST_STEPS : PySem.W.nsIn K mainGlobals "MOST_STEPS" = some (some (.int 16 t_MOST_STEPS)))
    (c_MOST_TOP : PySem.W.nsIn K mainGlobals "MOST_TOP" = some (some (.int 6 t_MOST_TOP)))
    (mD_LENGTHS : PySem.W.nsIn K mainGlobals "LENGTHS" = some (some (.ref d_LENGTHS)))
    (lD_LENGTHS : K.lookup d_LENGTHS = some ⟨.type "dict", none, .dict es_LENGTHS dn_LENGTHS, #[]⟩)
    (oD_LENGTHS : (d_LENGTHS == sysModules) = false)
    (eD_LENGTHS : KEs w.params es_LENGTHS.toList [("plus", 3), ("times", 3), ("turned", 2), ("beside", 3), ("above", 3), ("piece", 6), ("star", 2)])
    (n_ValueError : PySem.W.nsIn K mainGlobals "ValueError" = some none)
    (n_abs : PySem.W.nsIn K mainGlobals "abs" = some none)
    (n_all : PySem.W.nsIn K mainGlobals "all" = some none)
    (n_any : PySem.W.nsIn K mainGlobals "any" = some none)
    (n_bool : PySem.W.nsIn K mainGlobals "bool" = some none)
    (n_enumerate : PySem.W.nsIn K mainGlobals "enumerate" = some none)
    (n_int : PySem.W.nsIn K mainGlobals "int" = some none)
    (n_isinstance : PySem.W.nsIn K mainGlobals "isinstance" = some none)
    (n_len : PySem.W.nsIn K mainGlobals "len" = some none)
    (n_list : PySem.W.nsIn K mainGlobals "list" = some none)
    (n_max : PySem.W.nsIn K mainGlobals "max" = some none)
    (n_min : PySem.W.nsIn K mainGlobals "min" = some none)
    (n_range : PySem.W.nsIn K mainGlobals "range" = some none)
    (n_str : PySem.W.nsIn K mainGlobals "str" = some none)
    (n_tuple : PySem.W.nsIn K mainGlobals "tuple" = some none)
    (n_zip : PySem.W.nsIn K mainGlobals "zip" = some none)
    (v_gcd : PySem.W.nsIn K mainGlobals "gcd" = some (some (.builtin "math.gcd"))) :
    ∃ fd : FuncData, (∀ (s : Shared) (v : Value), BindsTo s fd ⟨[v], []⟩ [("script", v)]) ∧ ∀ base : Heap, K.In base → base.Ns mainGlobals mg → FnOk Pg w K mg base CX0 11 fa fd ["script"] (spLaw K) := by
  have e := hfa.symm.trans (PySem.W.mg_of X G a78)
  cases e
  have F0 := fun_mk (st := s__law_start) l0 c0 k0
  have b0 := F0.binds (ps := ["script"]) fun _ _ _ _ _ _ us hl => match us, hl with | [_], _ => rfl
  have F1 := fun_mk (st := s__law_pick) l1 c1 k1
  have b1 := F1.binds (ps := ["state", "many"]) fun _ _ _ _ _ _ us hl => match us, hl with | [_, _], _ => rfl
  have F2 := fun_mk (st := s__law_vector) l2 c2 k2
  have b2 := F2.binds (ps := ["state", "bottoms", "most"]) fun _ _ _ _ _ _ us hl => match us, hl with | [_, _, _], _ => rfl
  have F3 := fun_mk (st := s__law_cell) l3 c3 k3
  have b3 := F3.binds (ps := ["state", "bottoms", "heights", "shift", "i", "j"]) fun _ _ _ _ _ _ us hl => match us, hl with | [_, _, _, _, _, _], _ => rfl
  have F4 := fun_mk (st := s__law_row) l4 c4 k4
  have b4 := F4.binds (ps := ["state", "bottoms", "heights", "shift", "i", "columns"]) fun _ _ _ _ _ _ us hl => match us, hl with | [_, _, _, _, _, _], _ => rfl
  have F5 := fun_mk (st := s__law_grids) l5 c5 k5
  have b5 := F5.binds (ps := ["state", "bottoms"]) fun _ _ _ _ _ _ us hl => match us, hl with | [_, _], _ => rfl
  have F6 := fun_mk (st := s__law_shape) l6 c6 k6
  have b6 := F6.binds (ps := ["step", "shapes"]) fun _ _ _ _ _ _ us hl => match us, hl with | [_, _], _ => rfl
  have F7 := fun_mk (st := s__law_step) l7 c7 k7
  have b7 := F7.binds (ps := ["state", "word", "shapes"]) fun _ _ _ _ _ _ us hl => match us, hl with | [_, _, _], _ => rfl
  have F8 := fun_mk (st := s__law_world) l8 c8 k8
  have b8 := F8.binds (ps := ["state", "words"]) fun _ _ _ _ _ _ us hl => match us, hl with | [_, _], _ => rfl
  have F9 := fun_mk (st := s__law_lowest) l9 c9 k9
  have b9 := F9.binds (ps := ["top", "bottom"]) fun _ _ _ _ _ _ us hl => match us, hl with | [_, _], _ => rfl
  have F10 := fun_mk (st := s__law_number) l10 c10 k10
  have b10 := F10.binds (ps := ["state", "is_great"]) fun _ _ _ _ _ _ us hl => match us, hl with | [_, _], _ => rfl
  have F11 := fun_mk (st := s__law_numbers) l11 c11 k11
  have b11 := F11.binds (ps := ["state", "rows", "is_great"]) fun _ _ _ _ _ _ us hl => match us, hl with | [_, _, _], _ => rfl
  have F12 := fun_mk (st := s__law_values) l12 c12 k12
  have b12 := F12.binds (ps := ["state", "world"]) fun _ _ _ _ _ _ us hl => match us, hl with | [_, _], _ => rfl
  have F13 := fun_mk (st := s__law_unit) l13 c13 k13
  have b13 := F13.binds (ps := ["cell"]) fun _ _ _ _ _ _ us hl => match us, hl with | [_], _ => rfl
  have F14 := fun_mk (st := s__has_grid_length) l14 c14 k14
  have b14 := F14.binds (ps := ["thing"]) fun _ _ _ _ _ _ us hl => match us, hl with | [_], _ => rfl
  have F15 := fun_mk (st := s_is_whole) l15 c15 k15
  have b15 := F15.binds (ps := ["thing"]) fun _ _ _ _ _ _ us hl => match us, hl with | [_], _ => rfl
  have F16 := fun_mk (st := s_is_pair) l16 c16 k16
  have b16 := F16.binds (ps := ["thing"]) fun _ _ _ _ _ _ us hl => match us, hl with | [_], _ => rfl
  have F17 := fun_mk (st := s_is_fraction) l17 c17 k17
  have b17 := F17.binds (ps := ["thing"]) fun _ _ _ _ _ _ us hl => match us, hl with | [_], _ => rfl
  have F18 := fun_mk (st := s_is_any_unit) l18 c18 k18
  have b18 := F18.binds (ps := ["thing"]) fun _ _ _ _ _ _ us hl => match us, hl with | [_], _ => rfl
  have F19 := fun_mk (st := s_is_unit) l19 c19 k19
  have b19 := F19.binds (ps := ["bases", "thing"]) fun _ _ _ _ _ _ us hl => match us, hl with | [_, _], _ => rfl
  have F20 := fun_mk (st := s_is_cell) l20 c20 k20
  have b20 := F20.binds (ps := ["bases", "thing"]) fun _ _ _ _ _ _ us hl => match us, hl with | [_, _], _ => rfl
  have F21 := fun_mk (st := s__wrong_part) l21 c21 k21
  have b21 := F21.binds (ps := ["bases", "rows"]) fun _ _ _ _ _ _ us hl => match us, hl with | [_, _], _ => rfl
  have F22 := fun_mk (st := s_BadGrid___init__) l22 c22 k22
  have b22 := F22.binds (ps := ["self", "part"]) fun _ _ _ _ _ _ us hl => match us, hl with | [_, _], _ => rfl
  have F23 := fun_mk (st := s_Grid___init__) l23 c23 k23
  have b23 := F23.binds (ps := ["self", "bases", "rows"]) fun _ _ _ _ _ _ us hl => match us, hl with | [_, _, _], _ => rfl
  have F24 := fun_mk (st := s__law_grid) l24 c24 k24
  have b24 := F24.binds (ps := ["bases", "rows"]) fun _ _ _ _ _ _ us hl => match us, hl with | [_, _], _ => rfl
  have F25 := fun_mk (st := s__shape_of_two) l25 c25 k25
  have b25 := F25.binds (ps := ["kind", "one", "other"]) fun _ _ _ _ _ _ us hl => match us, hl with | [_, _, _], _ => rfl
  have F26 := fun_mk (st := s__piece_shape) l26 c26 k26
  have b26 := F26.binds (ps := ["step", "rows", "columns"]) fun _ _ _ _ _ _ us hl => match us, hl with | [_, _, _], _ => rfl
  have F27 := fun_mk (st := s__fitting_shape) l27 c27 k27
  have b27 := F27.binds (ps := ["step", "shapes"]) fun _ _ _ _ _ _ us hl => match us, hl with | [_, _], _ => rfl
  have F28 := fun_mk (st := s_is_index) l28 c28 k28
  have b28 := F28.binds (ps := ["thing", "many"]) fun _ _ _ _ _ _ us hl => match us, hl with | [_, _], _ => rfl
  have F29 := fun_mk (st := s_sources) l29 c29 k29
  have b29 := F29.binds (ps := ["step"]) fun _ _ _ _ _ _ us hl => match us, hl with | [_], _ => rfl
  have F30 := fun_mk (st := s_is_step) l30 c30 k30
  have b30 := F30.binds (ps := ["thing", "many"]) fun _ _ _ _ _ _ us hl => match us, hl with | [_, _], _ => rfl
  have F31 := fun_mk (st := s_made_shape) l31 c31 k31
  have b31 := F31.binds (ps := ["shapes", "thing"]) fun _ _ _ _ _ _ us hl => match us, hl with | [_, _], _ => rfl
  have F32 := fun_mk (st := s_BadScript___init__) l32 c32 k32
  have b32 := F32.binds (ps := ["self", "part"]) fun _ _ _ _ _ _ us hl => match us, hl with | [_, _], _ => rfl
  have F33 := fun_mk (st := s__shapes_made) l33 c33 k33
  have b33 := F33.binds (ps := ["shapes", "steps"]) fun _ _ _ _ _ _ us hl => match us, hl with | [_, _], _ => rfl
  have F34 := fun_mk (st := s__are_grids) l34 c34 k34
  have b34 := F34.binds (ps := ["thing"]) fun _ _ _ _ _ _ us hl => match us, hl with | [_], _ => rfl
  have F35 := fun_mk (st := s__shape_put_in) l35 c35 k35
  have b35 := F35.binds (ps := ["grid"]) fun _ _ _ _ _ _ us hl => match us, hl with | [_], _ => rfl
  have F36 := fun_mk (st := s_Script___init__) l36 c36 k36
  have b36 := F36.binds (ps := ["self", "grids", "steps"]) fun _ _ _ _ _ _ us hl => match us, hl with | [_, _, _], _ => rfl
  have F37 := fun_mk (st := s__law_script) l37 c37 k37
  have b37 := F37.binds (ps := ["world"]) fun _ _ _ _ _ _ us hl => match us, hl with | [_], _ => rfl
  have F38 := fun_mk (st := s__law_words) l38 c38 k38
  have b38 := F38.binds (ps := ["state", "many"]) fun _ _ _ _ _ _ us hl => match us, hl with | [_, _], _ => rfl
  have F39 := fun_mk (st := s_many_grids) l39 c39 k39
  have b39 := F39.binds (ps := ["script"]) fun _ _ _ _ _ _ us hl => match us, hl with | [_], _ => rfl
  have F40 := fun_mk (st := s_GridError___init__) l40 c40 k40
  have b40 := F40.binds (ps := ["self"]) fun _ _ _ _ _ _ us hl => match us, hl with | [_], _ => rfl
  have F41 := fun_mk (st := s_check_grid) l41 c41 k41
  have b41 := F41.binds (ps := ["script", "at"]) fun _ _ _ _ _ _ us hl => match us, hl with | [_, _], _ => rfl
  have F42 := fun_mk (st := s__beside_cells) l42 c42 k42
  have b42 := F42.binds (ps := ["grid", "numbers"]) fun _ _ _ _ _ _ us hl => match us, hl with | [_, _], _ => rfl
  have F43 := fun_mk (st := s__has_shape) l43 c43 k43
  have b43 := F43.binds (ps := ["grid", "thing"]) fun _ _ _ _ _ _ us hl => match us, hl with | [_, _], _ => rfl
  have F44 := fun_mk (st := s__is_number_for) l44 c44 k44
  have b44 := F44.binds (ps := ["unit", "thing"]) fun _ _ _ _ _ _ us hl => match us, hl with | [_, _], _ => rfl
  have F45 := fun_mk (st := s_are_numbers) l45 c45 k45
  have b45 := F45.binds (ps := ["grid", "thing"]) fun _ _ _ _ _ _ us hl => match us, hl with | [_, _], _ => rfl
  have F46 := fun_mk (st := s_is_above_nought) l46 c46 k46
  have b46 := F46.binds (ps := ["thing"]) fun _ _ _ _ _ _ us hl => match us, hl with | [_], _ => rfl
  have F47 := fun_mk (st := s_are_values) l47 c47 k47
  have b47 := F47.binds (ps := ["grid", "thing"]) fun _ _ _ _ _ _ us hl => match us, hl with | [_, _], _ => rfl
  have F48 := fun_mk (st := s_are_all_values) l48 c48 k48
  have b48 := F48.binds (ps := ["script", "thing"]) fun _ _ _ _ _ _ us hl => match us, hl with | [_, _], _ => rfl
  have F49 := fun_mk (st := s_Outcomes___init__) l49 c49 k49
  have b49 := F49.binds (ps := ["self", "numbers"]) fun _ _ _ _ _ _ us hl => match us, hl with | [_, _], _ => rfl
  have F50 := fun_mk (st := s_leading) l50 c50 k50
  have b50 := F50.binds (ps := ["script", "at"]) fun _ _ _ _ _ _ us hl => match us, hl with | [_, _], _ => rfl
  have F51 := fun_mk (st := s_turned) l51 c51 k51
  have b51 := F51.binds (ps := ["rows"]) fun _ _ _ _ _ _ us hl => match us, hl with | [_], _ => rfl
  have F52 := fun_mk (st := s_moved) l52 c52 k52
  have b52 := F52.binds (ps := ["step", "grids"]) fun _ _ _ _ _ _ us hl => match us, hl with | [_, _], _ => rfl
  have F53 := fun_mk (st := s_lowest) l53 c53 k53
  have b53 := F53.binds (ps := ["top", "bottom"]) fun _ _ _ _ _ _ us hl => match us, hl with | [_, _], _ => rfl
  have F54 := fun_mk (st := s_sum_of_products) l54 c54 k54
  have b54 := F54.binds (ps := ["pairs"]) fun _ _ _ _ _ _ us hl => match us, hl with | [_], _ => rfl
  have F55 := fun_mk (st := s_Outcomes_inner) l55 c55 k55
  have b55 := F55.binds (ps := ["self", "row", "column"]) fun _ _ _ _ _ _ us hl => match us, hl with | [_, _, _], _ => rfl
  have F56 := fun_mk (st := s_Cells_products) l56 c56 k56
  have b56 := F56.binds (ps := ["self", "one", "other"]) fun _ _ _ _ _ _ us hl => match us, hl with | [_, _, _], _ => rfl
  have F57 := fun_mk (st := s_times) l57 c57 k57
  have b57 := F57.binds (ps := ["one", "other"]) fun _ _ _ _ _ _ us hl => match us, hl with | [_, _], _ => rfl
  have F58 := fun_mk (st := s_Outcomes_product_of) l58 c58 k58
  have b58 := F58.binds (ps := ["self", "one", "other"]) fun _ _ _ _ _ _ us hl => match us, hl with | [_, _, _], _ => rfl
  have F59 := fun_mk (st := s_plus) l59 c59 k59
  have b59 := F59.binds (ps := ["one", "other"]) fun _ _ _ _ _ _ us hl => match us, hl with | [_, _], _ => rfl
  have F60 := fun_mk (st := s_Outcomes_sum_of) l60 c60 k60
  have b60 := F60.binds (ps := ["self", "one", "other"]) fun _ _ _ _ _ _ us hl => match us, hl with | [_, _, _], _ => rfl
  have F61 := fun_mk (st := s_Cells_with_paths) l61 c61 k61
  have b61 := F61.binds (ps := ["self", "row", "to_place", "around", "from_place"]) fun _ _ _ _ _ _ us hl => match us, hl with | [_, _, _, _, _], _ => rfl
  have F62 := fun_mk (st := s_Outcomes_powers_of) l62 c62 k62
  have b62 := F62.binds (ps := ["self", "one"]) fun _ _ _ _ _ _ us hl => match us, hl with | [_, _], _ => rfl
  have F63 := fun_mk (st := s_Cells_stars) l63 c63 k63
  have b63 := F63.binds (ps := ["self", "rows"]) fun _ _ _ _ _ _ us hl => match us, hl with | [_, _], _ => rfl
  have F64 := fun_mk (st := s_Cells_sums) l64 c64 k64
  have b64 := F64.binds (ps := ["self", "one", "other"]) fun _ _ _ _ _ _ us hl => match us, hl with | [_, _, _], _ => rfl
  have F65 := fun_mk (st := s_Cells_rows_made) l65 c65 k65
  have b65 := F65.binds (ps := ["self", "step", "grids"]) fun _ _ _ _ _ _ us hl => match us, hl with | [_, _, _], _ => rfl
  have F66 := fun_mk (st := s_Outcomes_put_in) l66 c66 k66
  have b66 := F66.binds (ps := ["self", "number", "i", "j", "unit"]) fun _ _ _ _ _ _ us hl => match us, hl with | [_, _, _, _, _], _ => rfl
  have F67 := fun_mk (st := s_Cells_rows_put_in) l67 c67 k67
  have b67 := F67.binds (ps := ["self", "number", "grid"]) fun _ _ _ _ _ _ us hl => match us, hl with | [_, _, _], _ => rfl
  have F68 := fun_mk (st := s_Cells_grids_of) l68 c68 k68
  have b68 := F68.binds (ps := ["self", "script", "wanted"]) fun _ _ _ _ _ _ us hl => match us, hl with | [_, _, _], _ => rfl
  have F69 := fun_mk (st := s_Cells_grids_to) l69 c69 k69
  have b69 := F69.binds (ps := ["self", "script", "at"]) fun _ _ _ _ _ _ us hl => match us, hl with | [_, _, _], _ => rfl
  have F70 := fun_mk (st := s_outcome) l70 c70 k70
  have b70 := F70.binds (ps := ["script", "values", "at"]) fun _ _ _ _ _ _ us hl => match us, hl with | [_, _, _], _ => rfl
  have F71 := fun_mk (st := s__law_is_fraction) l71 c71 k71
  have b71 := F71.binds (ps := ["thing"]) fun _ _ _ _ _ _ us hl => match us, hl with | [_], _ => rfl
  have F72 := fun_mk (st := s__law_are_rows) l72 c72 k72
  have b72 := F72.binds (ps := ["thing", "due"]) fun _ _ _ _ _ _ us hl => match us, hl with | [_, _], _ => rfl
  have F73 := fun_mk (st := s__law_source) l73 c73 k73
  have b73 := F73.binds (ps := ["step", "shapes", "i", "j"]) fun _ _ _ _ _ _ us hl => match us, hl with | [_, _, _, _], _ => rfl
  have F74 := fun_mk (st := s__law_plus) l74 c74 k74
  have b74 := F74.binds (ps := ["one", "other"]) fun _ _ _ _ _ _ us hl => match us, hl with | [_, _], _ => rfl
  have F75 := fun_mk (st := s__law_times) l75 c75 k75
  have b75 := F75.binds (ps := ["one", "other"]) fun _ _ _ _ _ _ us hl => match us, hl with | [_, _], _ => rfl
  have F76 := fun_mk (st := s__law_cell_of) l76 c76 k76
  have b76 := F76.binds (ps := ["step", "shapes", "told", "i", "j"]) fun _ _ _ _ _ _ us hl => match us, hl with | [_, _, _, _, _], _ => rfl
  have F77 := fun_mk (st := s__law_due) l77 c77 k77
  have b77 := F77.binds (ps := ["world", "values", "told", "at"]) fun _ _ _ _ _ _ us hl => match us, hl with | [_, _, _, _], _ => rfl
  have F78 := fun_mk (st := s_law) l78 c78 k78
  have b78 := F78.binds (ps := ["script"]) fun _ _ _ _ _ _ us hl => match us, hl with | [_], _ => rfl
  let T : Txt K mg := { w0 := w, D__law_start := ⟨f0, _, F0, PySem.W.mg_of X G a0, b0⟩, D__law_pick := ⟨f1, _, F1, PySem.W.mg_of X G a1, b1⟩, D__law_vector := ⟨f2, _, F2, PySem.W.mg_of X G a2, b2⟩, D__law_cell := ⟨f3, _, F3, PySem.W.mg_of X G a3, b3⟩, D__law_row := ⟨f4, _, F4, PySem.W.mg_of X G a4, b4⟩, D__law_grids := ⟨f5, _, F5, PySem.W.mg_of X G a5, b5⟩, D__law_shape := ⟨f6, _, F6, PySem.W.mg_of X G a6, b6⟩, D__law_step := ⟨f7, _, F7, PySem.W.mg_of X G a7, b7⟩, D__law_world := ⟨f8, _, F8, PySem.W.mg_of X G a8, b8⟩, D__law_lowest := ⟨f9, _, F9, PySem.W.mg_of X G a9, b9⟩, D__law_number := ⟨f10, _, F10, PySem.W.mg_of X G a10, b10⟩, D__law_numbers := ⟨f11, _, F11, PySem.W.mg_of X G a11, b11⟩, D__law_values := ⟨f12, _, F12, PySem.W.mg_of X G a12, b12⟩, D__law_unit := ⟨f13, _, F13, PySem.W.mg_of X G a13, b13⟩, D__has_grid_length := ⟨f14, _, F14, PySem.W.mg_of X G a14, b14⟩, D_is_whole := ⟨f15, _, F15, PySem.W.mg_of X G a15, b15⟩, D_is_pair := ⟨f16, _, F16, PySem.W.mg_of X G a16, b16⟩, D_is_fraction := ⟨f17, _, F17, PySem.W.mg_of X G a17, b17⟩, D_is_any_unit := ⟨f18, _, F18, PySem.W.mg_of X G a18, b18⟩, D_is_unit := ⟨f19, _, F19, PySem.W.mg_of X G a19, b19⟩, D_is_cell := ⟨f20, _, F20, PySem.W.mg_of X G a20, b20⟩, D__wrong_part := ⟨f21, _, F21, PySem.W.mg_of X G a21, b21⟩, D_BadGrid___init__ := ⟨f22, _, F22, b22⟩, D_Grid___init__ := ⟨f23, _, F23, b23⟩, D__law_grid := ⟨f24, _, F24, PySem.W.mg_of X G a24, b24⟩, D__shape_of_two := ⟨f25, _, F25, PySem.W.mg_of X G a25, b25⟩, D__piece_shape := ⟨f26, _, F26, PySem.W.mg_of X G a26, b26⟩, D__fitting_shape := ⟨f27, _, F27, PySem.W.mg_of X G a27, b27⟩, D_is_index := ⟨f28, _, F28, PySem.W.mg_of X G a28, b28⟩, D_sources := ⟨f29, _, F29, PySem.W.mg_of X G a29, b29⟩, D_is_step := ⟨f30, _, F30, PySem.W.mg_of X G a30, b30⟩, D_made_shape := ⟨f31, _, F31, PySem.W.mg_of X G a31, b31⟩, D_BadScript___init__ := ⟨f32, _, F32, b32⟩, D__shapes_made := ⟨f33, _, F33, PySem.W.mg_of X G a33, b33⟩, D__are_grids := ⟨f34, _, F34, PySem.W.mg_of X G a34, b34⟩, D__shape_put_in := ⟨f35, _, F35, PySem.W.mg_of X G a35, b35⟩, D_Script___init__ := ⟨f36, _, F36, b36⟩, D__law_script := ⟨f37, _, F37, PySem.W.mg_of X G a37, b37⟩, D__law_words := ⟨f38, _, F38, PySem.W.mg_of X G a38, b38⟩, D_many_grids := ⟨f39, _, F39, PySem.W.mg_of X G a39, b39⟩, D_GridError___init__ := ⟨f40, _, F40, b40⟩, D_check_grid := ⟨f41, _, F41, PySem.W.mg_of X G a41, b41⟩, D__beside_cells := ⟨f42, _, F42, PySem.W.mg_of X G a42, b42⟩, D__has_shape := ⟨f43, _, F43, PySem.W.mg_of X G a43, b43⟩, D__is_number_for := ⟨f44, _, F44, PySem.W.mg_of X G a44, b44⟩, D_are_numbers := ⟨f45, _, F45, PySem.W.mg_of X G a45, b45⟩, D_is_above_nought := ⟨f46, _, F46, PySem.W.mg_of X G a46, b46⟩, D_are_values := ⟨f47, _, F47, PySem.W.mg_of X G a47, b47⟩, D_are_all_values := ⟨f48, _, F48, PySem.W.mg_of X G a48, b48⟩, D_Outcomes___init__ := ⟨f49, _, F49, b49⟩, D_leading := ⟨f50, _, F50, PySem.W.mg_of X G a50, b50⟩, D_turned := ⟨f51, _, F51, PySem.W.mg_of X G a51, b51⟩, D_moved := ⟨f52, _, F52, PySem.W.mg_of X G a52, b52⟩, D_lowest := ⟨f53, _, F53, PySem.W.mg_of X G a53, b53⟩, D_sum_of_products := ⟨f54, _, F54, PySem.W.mg_of X G a54, b54⟩, D_Outcomes_inner := ⟨f55, _, F55, b55⟩, D_Cells_products := ⟨f56, _, F56, b56⟩, D_times := ⟨f57, _, F57, PySem.W.mg_of X G a57, b57⟩, D_Outcomes_product_of := ⟨f58, _, F58, b58⟩, D_plus := ⟨f59, _, F59, PySem.W.mg_of X G a59, b59⟩, D_Outcomes_sum_of := ⟨f60, _, F60, b60⟩, D_Cells_with_paths := ⟨f61, _, F61, b61⟩, D_Outcomes_powers_of := ⟨f62, _, F62, b62⟩, D_Cells_stars := ⟨f63, _, F63, b63⟩, D_Cells_sums := ⟨f64, _, F64, b64⟩, D_Cells_rows_made := ⟨f65, _, F65, b65⟩, D_Outcomes_put_in := ⟨f66, _, F66, b66⟩, D_Cells_rows_put_in := ⟨f67, _, F67, b67⟩, D_Cells_grids_of := ⟨f68, _, F68, b68⟩, D_Cells_grids_to := ⟨f69, _, F69, b69⟩, D_outcome := ⟨f70, _, F70, PySem.W.mg_of X G a70, b70⟩, D__law_is_fraction := ⟨f71, _, F71, PySem.W.mg_of X G a71, b71⟩, D__law_are_rows := ⟨f72, _, F72, PySem.W.mg_of X G a72, b72⟩, D__law_source := ⟨f73, _, F73, PySem.W.mg_of X G a73, b73⟩, D__law_plus := ⟨f74, _, F74, PySem.W.mg_of X G a74, b74⟩, D__law_times := ⟨f75, _, F75, PySem.W.mg_of X G a75, b75⟩, D__law_cell_of := ⟨f76, _, F76, PySem.W.mg_of X G a76, b76⟩, D__law_due := ⟨f77, _, F77, PySem.W.mg_of X G a77, b77⟩, D_law := ⟨fa, _, F78, PySem.W.mg_of X G a78, b78⟩, ty_BadGrid___init__ := tI_BadGrid___init__, ty_BadScript___init__ := tI_BadScript___init__, ty_GridError___init__ := tI_GridError___init__, x_BadGrid := ⟨C_BadGrid, PySem.W.mg_of X G gC_BadGrid, ⟨⟨_, _, _, _, _, _, _, _, _, _, _, _, _, _, _, lk_BadGrid, rv_BadGrid⟩, sa_BadGrid, eb_BadGrid, ty_BadGrid, kp_BadGrid⟩, iC_BadGrid⟩, x_BadScript := ⟨C_BadScript, PySem.W.mg_of X G gC_BadScript, ⟨⟨_, _, _, _, _, _, _, _, _, _, _, _, _, _, _, lk_BadScript, rv_BadScript⟩, sa_BadScript, eb_BadScript, ty_BadScript, kp_BadScript⟩, iC_BadScript⟩, x_NoGrid := ⟨C_NoGrid, PySem.W.mg_of X G gC_NoGrid, ⟨⟨_, _, _, _, _, _, _, _, _, _, _, _, _, _, _, lk_NoGrid, rv_NoGrid⟩, sa_NoGrid, eb_NoGrid, ty_NoGrid, kp_NoGrid⟩, iC_NoGrid⟩, x_NoValues := ⟨C_NoValues, PySem.W.mg_of X G gC_NoValues, ⟨⟨_, _, _, _, _, _, _, _, _, _, _, _, _, _, _, lk_NoValues, rv_NoValues⟩, sa_NoValues, eb_NoValues, ty_NoValues, kp_NoValues⟩, iC_NoValues⟩, k_Grid := ⟨C_Grid, PySem.W.mg_of X G gC_Grid, (cls_of oC_Grid).2, (cls_of oC_Grid).1⟩, k_Script := ⟨C_Script, PySem.W.mg_of X G gC_Script, (cls_of oC_Script).2, (cls_of oC_Script).1⟩, k_Outcomes := ⟨C_Outcomes, PySem.W.mg_of X G gC_Outcomes, (cls_of oC_Outcomes).2, (cls_of oC_Outcomes).1⟩, i_Grid := isi_of ii_Grid, mt_Outcomes_grids_of := me_of mB_Outcomes_grids_of, mt_Outcomes_grids_to := me_of mB_Outcomes_grids_to, mt_Outcomes_inner := me_of mB_Outcomes_inner, mt_Outcomes_powers_of := me_of mB_Outcomes_powers_of, mt_Outcomes_product_of := me_of mB_Outcomes_product_of, mt_Outcomes_products := me_of mB_Outcomes_products, mt_Outcomes_put_in := me_of mB_Outcomes_put_in, mt_Outcomes_rows_made := me_of mB_Outcomes_rows_made, mt_Outcomes_rows_put_in := me_of mB_Outcomes_rows_put_in, mt_Outcomes_stars := me_of mB_Outcomes_stars, mt_Outcomes_sum_of := me_of mB_Outcomes_sum_of, mt_Outcomes_sums := me_of mB_Outcomes_sums, mt_Outcomes_with_paths := me_of mB_Outcomes_with_paths, na_Grid_bases := nA_Grid_bases, na_Grid_rows := nA_Grid_rows, na_Script_grids := nA_Script_grids, na_Script_steps := nA_Script_steps, na_Script_shapes := nA_Script_shapes, na_Outcomes_nought := nA_Outcomes_nought, na_Outcomes_numbers := nA_Outcomes_numbers, nx_BadGrid_part := nx_BadGrid_part, nx_BadScript_part := nx_BadScript_part, v_VE := v_VE, t_ENDLESS := t_ENDLESS, c_ENDLESS := PySem.W.mg_of X G c_ENDLESS, t_LENGTH_OF_TWO := t_LENGTH_OF_TWO, c_LENGTH_OF_TWO := PySem.W.mg_of X G c_LENGTH_OF_TWO, t_MOST_BASES := t_MOST_BASES, c_MOST_BASES := PySem.W.mg_of X G c_MOST_BASES, t_MOST_BOTTOM := t_MOST_BOTTOM, c_MOST_BOTTOM := PySem.W.mg_of X G c_MOST_BOTTOM, t_MOST_GRIDS := t_MOST_GRIDS, c_MOST_GRIDS := PySem.W.mg_of X G c_MOST_GRIDS, t_MOST_MADE := t_MOST_MADE, c_MOST_MADE := PySem.W.mg_of X G c_MOST_MADE, t_MOST_ROWS := t_MOST_ROWS, c_MOST_ROWS := PySem.W.mg_of X G c_MOST_ROWS, t_MOST_STEPS := t_MOST_STEPS, c_MOST_STEPS := PySem.W.mg_of X G c_MOST_STEPS, t_MOST_TOP := t_MOST_TOP, c_MOST_TOP := PySem.W.mg_of X G c_MOST_TOP, d_LENGTHS := d_LENGTHS, m_LENGTHS := PySem.W.mg_of X G mD_LENGTHS, kd_LENGTHS := ⟨⟨_, _, lD_LENGTHS, eD_LENGTHS⟩, oD_LENGTHS⟩, n_ValueError := PySem.W.mg_none_of X G n_ValueError, n_abs := PySem.W.mg_none_of X G n_abs, n_all := PySem.W.mg_none_of X G n_all, n_any := PySem.W.mg_none_of X G n_any, n_bool := PySem.W.mg_none_of X G n_bool, n_enumerate := PySem.W.mg_none_of X G n_enumerate, n_int := PySem.W.mg_none_of X G n_int, n_isinstance := PySem.W.mg_none_of X G n_isinstance, n_len := PySem.W.mg_none_of X G n_len, n_list := PySem.W.mg_none_of X G n_list, n_max := PySem.W.mg_none_of X G n_max, n_min := PySem.W.mg_none_of X G n_min, n_range := PySem.W.mg_none_of X G n_range, n_str := PySem.W.mg_none_of X G n_str, n_tuple := PySem.W.mg_none_of X G n_tuple, n_zip := PySem.W.mg_none_of X G n_zip, v_gcd := PySem.W.mg_of X G v_gcd }
  exact ⟨T.D_law.d, fun s v => .of_eq rfl, fun base _ _ => ok_law T⟩
end Lk20
open PySem PySem.W PyProof.Rows
set_option maxRecDepth 100000 in
set_option maxHeartbeats 0 in
theorem PySem.Challenge.cw_unitgrids_k20_whole_outcomes_step_by_ste_holds : PySem.Challenge.rw_unitgrids_k20_whole_outcomes_step_by_ste.Holds := by
  w_on; o_law; k_head; (case hw => w_witness2)
  k_fill
  refine L2.walk_of (l := PySem.Challenge.rw_unitgrids_k20_whole_outcomes_step_by_ste) (n := 63) (k := 11) (x := "script") (CX := fun _ => L2.CX0) (sp := fun w => PD.spLaw _) rfl (by decide) rfl ⟨rfl, by decide, by decide⟩ (fun w h Y => PySem.W.kIn_of Y) ?F (fun _ _ a ns hl _ hS => ⟨a, ns, rfl, hS, hl, fun _ => rfl⟩) (fun _ _ _ _ _ h => h)
  case F =>
    intro w mg fa h KX G hmg
    refine' Lk20.all_mk KX G hmg ?a0 ?a1 ?a2 ?a3 ?a4 ?a5 ?a6 ?a7 ?a8 ?a9 ?a10 ?a11 ?a12 ?a13 ?a14 ?a15 ?a16 ?a17 ?a18 ?a19 ?a20 ?a21 ?a24 ?a25 ?a26 ?a27 ?a28 ?a29 ?a30 ?a31 ?a33 ?a34 ?a35 ?a37 ?a38 ?a39 ?a41 ?a42 ?a43 ?a44 ?a45 ?a46 ?a47 ?a48 ?a50 ?a51 ?a52 ?a53 ?a54 ?a57 ?a59 ?a70 ?a71 ?a72 ?a73 ?a74 ?a75 ?a76 ?a77 ?a78 ?gC_BadGrid ?iC_BadGrid ?lk_BadGrid ?rv_BadGrid ?sa_BadGrid ?eb_BadGrid ?ty_BadGrid ?kp_BadGrid ?gC_BadScript ?iC_BadScript ?lk_BadScript ?rv_BadScript ?sa_BadScript ?eb_BadScript ?ty_BadScript ?kp_BadScript ?gC_NoGrid ?iC_NoGrid ?lk_NoGrid ?rv_NoGrid ?sa_NoGrid ?eb_NoGrid ?ty_NoGrid ?kp_NoGrid ?gC_NoValues ?iC_NoValues ?lk_NoValues ?rv_NoValues ?sa_NoValues ?eb_NoValues ?ty_NoValues ?kp_NoValues ?gC_Grid ?iC_Grid ?oC_Grid ?gC_Script ?iC_Script ?oC_Script ?gC_Outcomes ?iC_Outcomes ?oC_Outcomes ?ii_Grid ?mE_Outcomes_grids_of ?mB_Outcomes_grids_of ?mE_Outcomes_grids_to ?mB_Outcomes_grids_to ?mE_Outcomes_inner ?mB_Outcomes_inner ?mE_Outcomes_powers_of ?mB_Outcomes_powers_of ?mE_Outcomes_product_of ?mB_Outcomes_product_of ?mE_Outcomes_products ?mB_Outcomes_products ?mE_Outcomes_put_in ?mB_Outcomes_put_in ?mE_Outcomes_rows_made ?mB_Outcomes_rows_made ?mE_Outcomes_rows_put_in ?mB_Outcomes_rows_put_in ?mE_Outcomes_stars ?mB_Outcomes_stars ?mE_Outcomes_sum_of ?mB_Outcomes_sum_of ?mE_Outcomes_sums ?mB_Outcomes_sums ?mE_Outcomes_with_paths ?mB_Outcomes_with_paths ?tI_BadGrid___init__ ?tI_BadScript___init__ ?tI_GridError___init__ ?nA_Grid_bases ?nA_Grid_rows ?nA_Script_grids ?nA_Script_steps ?nA_Script_shapes ?nA_Outcomes_nought ?nA_Outcomes_numbers ?nx_BadGrid_part ?nx_BadScript_part ?v_VE ?l0 ?c0 ?k0 ?l1 ?c1 ?k1 ?l2 ?c2 ?k2 ?l3 ?c3 ?k3 ?l4 ?c4 ?k4 ?l5 ?c5 ?k5 ?l6 ?c6 ?k6 ?l7 ?c7 ?k7 ?l8 ?c8 ?k8 ?l9 ?c9 ?k9 ?l10 ?c10 ?k10 ?l11 ?c11 ?k11 ?l12 ?c12 ?k12 ?l13 ?c13 ?k13 ?l14 ?c14 ?k14 ?l15 ?c15 ?k15 ?l16 ?c16 ?k16 ?l17 ?c17 ?k17 ?l18 ?c18 ?k18 ?l19 ?c19 ?k19 ?l20 ?c20 ?k20 ?l21 ?c21 ?k21 ?l22 ?c22 ?k22 ?l23 ?c23 ?k23 ?l24 ?c24 ?k24 ?l25 ?c25 ?k25 ?l26 ?c26 ?k26 ?l27 ?c27 ?k27 ?l28 ?c28 ?k28 ?l29 ?c29 ?k29 ?l30 ?c30 ?k30 ?l31 ?c31 ?k31 ?l32 ?c32 ?k32 ?l33 ?c33 ?k33 ?l34 ?c34 ?k34 ?l35 ?c35 ?k35 ?l36 ?c36 ?k36 ?l37 ?c37 ?k37 ?l38 ?c38 ?k38 ?l39 ?c39 ?k39 ?l40 ?c40 ?k40 ?l41 ?c41 ?k41 ?l42 ?c42 ?k42 ?l43 ?c43 ?k43 ?l44 ?c44 ?k44 ?l45 ?c45 ?k45 ?l46 ?c46 ?k46 ?l47 ?c47 ?k47 ?l48 ?c48 ?k48 ?l49 ?c49 ?k49 ?l50 ?c50 ?k50 ?l51 ?c51 ?k51 ?l52 ?c52 ?k52 ?l53 ?c53 ?k53 ?l54 ?c54 ?k54 ?l55 ?c55 ?k55 ?l56 ?c56 ?k56 ?l57 ?c57 ?k57 ?l58 ?c58 ?k58 ?l59 ?c59 ?k59 ?l60 ?c60 ?k60 ?l61 ?c61 ?k61 ?l62 ?c62 ?k62 ?l63 ?c63 ?k63 ?l64 ?c64 ?k64 ?l65 ?c65 ?k65 ?l66 ?c66 ?k66 ?l67 ?c67 ?k67 ?l68 ?c68 ?k68 ?l69 ?c69 ?k69 ?l70 ?c70 ?k70 ?l71 ?c71 ?k71 ?l72 ?c72 ?k72 ?l73 ?c73 ?k73 ?l74 ?c74 ?k74 ?l75 ?c75 ?k75 ?l76 ?c76 ?k76 ?l77 ?c77 ?k77 ?l78 ?c78 ?k78 ?c_ENDLESS ?c_LENGTH_OF_TWO ?c_MOST_BASES ?c_MOST_BOTTOM ?c_MOST_GRIDS ?c_MOST_MADE ?c_MOST_ROWS ?c_MOST_STEPS ?c_MOST_TOP ?mD_LENGTHS ?lD_LENGTHS ?oD_LENGTHS ?eD_LENGTHS ?n_ValueError ?n_abs ?n_all ?n_any ?n_bool ?n_enumerate ?n_int ?n_isinstance ?n_len ?n_list ?n_max ?n_min ?n_range ?n_str ?n_tuple ?n_zip ?v_gcd
    (case a0 => k_is)
    (case a1 => k_is)
    (case a2 => k_is)
    (case a3 => k_is)
    (case a4 => k_is)
    (case a5 => k_is)
    (case a6 => k_is)
    (case a7 => k_is)
    (case a8 => k_is)
    (case a9 => k_is)
    (case a10 => k_is)
    (case a11 => k_is)
    (case a12 => k_is)
    (case a13 => k_is)
    (case a14 => k_is)
    (case a15 => k_is)
    (case a16 => k_is)
    (case a17 => k_is)
    (case a18 => k_is)
    (case a19 => k_is)
    (case a20 => k_is)
    (case a21 => k_is)
    (case a24 => k_is)
    (case a25 => k_is)
    (case a26 => k_is)
    (case a27 => k_is)
    (case a28 => k_is)
    (case a29 => k_is)
    (case a30 => k_is)
    (case a31 => k_is)
    (case a33 => k_is)
    (case a34 => k_is)
    (case a35 => k_is)
    (case a37 => k_is)
    (case a38 => k_is)
    (case a39 => k_is)
    (case a41 => k_is)
    (case a42 => k_is)
    (case a43 => k_is)
    (case a44 => k_is)
    (case a45 => k_is)
    (case a46 => k_is)
    (case a47 => k_is)
    (case a48 => k_is)
    (case a50 => k_is)
    (case a51 => k_is)
    (case a52 => k_is)
    (case a53 => k_is)
    (case a54 => k_is)
    (case a57 => k_is)
    (case a59 => k_is)
    (case a70 => k_is)
    (case a71 => k_is)
    (case a72 => k_is)
    (case a73 => k_is)
    (case a74 => k_is)
    (case a75 => k_is)
    (case a76 => k_is)
    (case a77 => k_is)
    (case a78 => k_is)
    (case gC_BadGrid => k_is)
    (case iC_BadGrid => k_is)
    (case lk_BadGrid => k_is)
    (case rv_BadGrid => kernel_rfl)
    (case sa_BadGrid => k_is)
    (case eb_BadGrid => k_is)
    (case ty_BadGrid => k_is)
    (case kp_BadGrid => k_is)
    (case gC_BadScript => k_is)
    (case iC_BadScript => k_is)
    (case lk_BadScript => k_is)
    (case rv_BadScript => kernel_rfl)
    (case sa_BadScript => k_is)
    (case eb_BadScript => k_is)
    (case ty_BadScript => k_is)
    (case kp_BadScript => k_is)
    (case gC_NoGrid => k_is)
    (case iC_NoGrid => k_is)
    (case lk_NoGrid => k_is)
    (case rv_NoGrid => kernel_rfl)
    (case sa_NoGrid => k_is)
    (case eb_NoGrid => k_is)
    (case ty_NoGrid => k_is)
    (case kp_NoGrid => k_is)
    (case gC_NoValues => k_is)
    (case iC_NoValues => k_is)
    (case lk_NoValues => k_is)
    (case rv_NoValues => kernel_rfl)
    (case sa_NoValues => k_is)
    (case eb_NoValues => k_is)
    (case ty_NoValues => k_is)
    (case kp_NoValues => k_is)
    (case gC_Grid => k_is)
    (case iC_Grid => k_is)
    (case oC_Grid => kernel_rfl)
    (case gC_Script => k_is)
    (case iC_Script => k_is)
    (case oC_Script => kernel_rfl)
    (case gC_Outcomes => k_is)
    (case iC_Outcomes => k_is)
    (case oC_Outcomes => kernel_rfl)
    (case ii_Grid => kernel_rfl)
    (case mE_Outcomes_grids_of => k_is)
    (case mB_Outcomes_grids_of => kernel_rfl)
    (case mE_Outcomes_grids_to => k_is)
    (case mB_Outcomes_grids_to => kernel_rfl)
    (case mE_Outcomes_inner => k_is)
    (case mB_Outcomes_inner => kernel_rfl)
    (case mE_Outcomes_powers_of => k_is)
    (case mB_Outcomes_powers_of => kernel_rfl)
    (case mE_Outcomes_product_of => k_is)
    (case mB_Outcomes_product_of => kernel_rfl)
    (case mE_Outcomes_products => k_is)
    (case mB_Outcomes_products => kernel_rfl)
    (case mE_Outcomes_put_in => k_is)
    (case mB_Outcomes_put_in => kernel_rfl)
    (case mE_Outcomes_rows_made => k_is)
    (case mB_Outcomes_rows_made => kernel_rfl)
    (case mE_Outcomes_rows_put_in => k_is)
    (case mB_Outcomes_rows_put_in => kernel_rfl)
    (case mE_Outcomes_stars => k_is)
    (case mB_Outcomes_stars => kernel_rfl)
    (case mE_Outcomes_sum_of => k_is)
    (case mB_Outcomes_sum_of => kernel_rfl)
    (case mE_Outcomes_sums => k_is)
    (case mB_Outcomes_sums => kernel_rfl)
    (case mE_Outcomes_with_paths => k_is)
    (case mB_Outcomes_with_paths => kernel_rfl)
    (case tI_BadGrid___init__ => k_is)
    (case tI_BadScript___init__ => k_is)
    (case tI_GridError___init__ => k_is)
    (case nA_Grid_bases => k_is)
    (case nA_Grid_rows => k_is)
    (case nA_Script_grids => k_is)
    (case nA_Script_steps => k_is)
    (case nA_Script_shapes => k_is)
    (case nA_Outcomes_nought => k_is)
    (case nA_Outcomes_numbers => k_is)
    (case nx_BadGrid_part => k_is)
    (case nx_BadScript_part => k_is)
    (case v_VE => k_is)
    (case l0 => k_is)
    (case c0 => k_is)
    (case k0 => k_is)
    (case l1 => k_is)
    (case c1 => k_is)
    (case k1 => k_is)
    (case l2 => k_is)
    (case c2 => k_is)
    (case k2 => k_is)
    (case l3 => k_is)
    (case c3 => k_is)
    (case k3 => k_is)
    (case l4 => k_is)
    (case c4 => k_is)
    (case k4 => k_is)
    (case l5 => k_is)
    (case c5 => k_is)
    (case k5 => k_is)
    (case l6 => k_is)
    (case c6 => k_is)
    (case k6 => k_is)
    (case l7 => k_is)
    (case c7 => k_is)
    (case k7 => k_is)
    (case l8 => k_is)
    (case c8 => k_is)
    (case k8 => k_is)
    (case l9 => k_is)
    (case c9 => k_is)
    (case k9 => k_is)
    (case l10 => k_is)
    (case c10 => k_is)
    (case k10 => k_is)
    (case l11 => k_is)
    (case c11 => k_is)
    (case k11 => k_is)
    (case l12 => k_is)
    (case c12 => k_is)
    (case k12 => k_is)
    (case l13 => k_is)
    (case c13 => k_is)
    (case k13 => k_is)
    (case l14 => k_is)
    (case c14 => k_is)
    (case k14 => k_is)
    (case l15 => k_is)
    (case c15 => k_is)
    (case k15 => k_is)
    (case l16 => k_is)
    (case c16 => k_is)
    (case k16 => k_is)
    (case l17 => k_is)
    (case c17 => k_is)
    (case k17 => k_is)
    (case l18 => k_is)
    (case c18 => k_is)
    (case k18 => k_is)
    (case l19 => k_is)
    (case c19 => k_is)
    (case k19 => k_is)
    (case l20 => k_is)
    (case c20 => k_is)
    (case k20 => k_is)
    (case l21 => k_is)
    (case c21 => k_is)
    (case k21 => k_is)
    (case l22 => k_is)
    (case c22 => k_is)
    (case k22 => k_is)
    (case l23 => k_is)
    (case c23 => k_is)
    (case k23 => k_is)
    (case l24 => k_is)
    (case c24 => k_is)
    (case k24 => k_is)
    (case l25 => k_is)
    (case c25 => k_is)
    (case k25 => k_is)
    (case l26 => k_is)
    (case c26 => k_is)
    (case k26 => k_is)
    (case l27 => k_is)
    (case c27 => k_is)
    (case k27 => k_is)
    (case l28 => k_is)
    (case c28 => k_is)
    (case k28 => k_is)
    (case l29 => k_is)
    (case c29 => k_is)
    (case k29 => k_is)
    (case l30 => k_is)
    (case c30 => k_is)
    (case k30 => k_is)
    (case l31 => k_is)
    (case c31 => k_is)
    (case k31 => k_is)
    (case l32 => k_is)
    (case c32 => k_is)
    (case k32 => k_is)
    (case l33 => k_is)
    (case c33 => k_is)
    (case k33 => k_is)
    (case l34 => k_is)
    (case c34 => k_is)
    (case k34 => k_is)
    (case l35 => k_is)
    (case c35 => k_is)
    (case k35 => k_is)
    (case l36 => k_is)
    (case c36 => k_is)
    (case k36 => k_is)
    (case l37 => k_is)
    (case c37 => k_is)
    (case k37 => k_is)
    (case l38 => k_is)
    (case c38 => k_is)
    (case k38 => k_is)
    (case l39 => k_is)
    (case c39 => k_is)
    (case k39 => k_is)
    (case l40 => k_is)
    (case c40 => k_is)
    (case k40 => k_is)
    (case l41 => k_is)
    (case c41 => k_is)
    (case k41 => k_is)
    (case l42 => k_is)
    (case c42 => k_is)
    (case k42 => k_is)
    (case l43 => k_is)
    (case c43 => k_is)
    (case k43 => k_is)
    (case l44 => k_is)
    (case c44 => k_is)
    (case k44 => k_is)
    (case l45 => k_is)
    (case c45 => k_is)
    (case k45 => k_is)
    (case l46 => k_is)
    (case c46 => k_is)
    (case k46 => k_is)
    (case l47 => k_is)
    (case c47 => k_is)
    (case k47 => k_is)
    (case l48 => k_is)
    (case c48 => k_is)
    (case k48 => k_is)
    (case l49 => k_is)
    (case c49 => k_is)
    (case k49 => k_is)
    (case l50 => k_is)
    (case c50 => k_is)
    (case k50 => k_is)
    (case l51 => k_is)
    (case c51 => k_is)
    (case k51 => k_is)
    (case l52 => k_is)
    (case c52 => k_is)
    (case k52 => k_is)
    (case l53 => k_is)
    (case c53 => k_is)
    (case k53 => k_is)
    (case l54 => k_is)
    (case c54 => k_is)
    (case k54 => k_is)
    (case l55 => k_is)
    (case c55 => k_is)
    (case k55 => k_is)
    (case l56 => k_is)
    (case c56 => k_is)
    (case k56 => k_is)
    (case l57 => k_is)
    (case c57 => k_is)
    (case k57 => k_is)
    (case l58 => k_is)
    (case c58 => k_is)
    (case k58 => k_is)
    (case l59 => k_is)
    (case c59 => k_is)
    (case k59 => k_is)
    (case l60 => k_is)
    (case c60 => k_is)
    (case k60 => k_is)
    (case l61 => k_is)
    (case c61 => k_is)
    (case k61 => k_is)
    (case l62 => k_is)
    (case c62 => k_is)
    (case k62 => k_is)
    (case l63 => k_is)
    (case c63 => k_is)
    (case k63 => k_is)
    (case l64 => k_is)
    (case c64 => k_is)
    (case k64 => k_is)
    (case l65 => k_is)
    (case c65 => k_is)
    (case k65 => k_is)
    (case l66 => k_is)
    (case c66 => k_is)
    (case k66 => k_is)
    (case l67 => k_is)
    (case c67 => k_is)
    (case k67 => k_is)
    (case l68 => k_is)
    (case c68 => k_is)
    (case k68 => k_is)
    (case l69 => k_is)
    (case c69 => k_is)
    (case k69 => k_is)
    (case l70 => k_is)
    (case c70 => k_is)
    (case k70 => k_is)
    (case l71 => k_is)
    (case c71 => k_is)
    (case k71 => k_is)
    (case l72 => k_is)
    (case c72 => k_is)
    (case k72 => k_is)
    (case l73 => k_is)
    (case c73 => k_is)
    (case k73 => k_is)
    (case l74 => k_is)
    (case c74 => k_is)
    (case k74 => k_is)
    (case l75 => k_is)
    (case c75 => k_is)
    (case k75 => k_is)
    (case l76 => k_is)
    (case c76 => k_is)
    (case k76 => k_is)
    (case l77 => k_is)
    (case c77 => k_is)
    (case k77 => k_is)
    (case l78 => k_is)
    (case c78 => k_is)
    (case k78 => k_is)
    (case c_ENDLESS => k_is)
    (case c_LENGTH_OF_TWO => k_is)
    (case c_MOST_BASES => k_is)
    (case c_MOST_BOTTOM => k_is)
    (case c_MOST_GRIDS => k_is)
    (case c_MOST_MADE => k_is)
    (case c_MOST_ROWS => k_is)
    (case c_MOST_STEPS => k_is)
    (case c_MOST_TOP => k_is)
    (case mD_LENGTHS => k_is)
    (case lD_LENGTHS => k_is)
    (case oD_LENGTHS => kernel_rfl)
    (case eD_LENGTHS => exact ⟨⟨_, rfl⟩, rfl, ⟨_, rfl⟩, ⟨_, rfl⟩, rfl, ⟨_, rfl⟩, ⟨_, rfl⟩, rfl, ⟨_, rfl⟩, ⟨_, rfl⟩, rfl, ⟨_, rfl⟩, ⟨_, rfl⟩, rfl, ⟨_, rfl⟩, ⟨_, rfl⟩, rfl, ⟨_, rfl⟩, ⟨_, rfl⟩, rfl, ⟨_, rfl⟩, trivial⟩)
    (case n_ValueError => k_is)
    (case n_abs => k_is)
    (case n_all => k_is)
    (case n_any => k_is)
    (case n_bool => k_is)
    (case n_enumerate => k_is)
    (case n_int => k_is)
    (case n_isinstance => k_is)
    (case n_len => k_is)
    (case n_list => k_is)
    (case n_max => k_is)
    (case n_min => k_is)
    (case n_range => k_is)
    (case n_str => k_is)
    (case n_tuple => k_is)
    (case n_zip => k_is)
    (case v_gcd => k_is)

import PyProof.Rows.All
import Wide.All
import OpenK.AllK
import Wide.FinOn
import HandS.ForMost
import HandS.Zip
import HandS.Gcd
import HandS.Wide
import HandS.IsInst
import HandS.TupAny
import HandS.Style
import HandS.Evl
import HandS.Exc
import HandS.ExcInit
import HandS.ExcOwn
import HandS.TryOnly
import HandS.TryMany
import HandS.WordsExc
import KE.GoesEnum
import KE.GoesMore
import HandS.TupMul
import HandS.ExcField
import HandS.OwnEq
import HandS.Zip0
import KE.KDictZip
import HandS.WrittenGet
import KE.DataMinMax
import KE.GoesZip
import PySem.Challenge.RW_unitgrids_k60_whole_inverses_and_solutio
set_option Elab.async false
set_option linter.all false
set_option maxRecDepth 100000
set_option maxHeartbeats 4000000
namespace PD
open PySem PySem.Spec PyProof.Rows L2

/-- plain data: what a value says, whatever its addresses are; st: the one list that a law draws from -/
inductive D where
  | non | bl (b : Bool) | int (i : Int) | str (x : Str) | ty (n : String)
  | tup (xs : List D) | lst (xs : List D) | st | obj (a : Addr)
  /-- a dict, whatever is in it; an instance of the class at C: its fields' names and what they hold -/
  | dct | ins (C : Addr) (ns : List Str) (ds : List D)
  /-- range(0, n) -/
  | rng (n : Int)
  /-- a caught exception: its own dict's place, names and data -/
  | exc (a dx : Addr) (ns : List Str) (ds : List D)
  /-- an exception held as a value: its class, its fields' names and data -/
  | xob (C : Addr) (ns : List Str) (ds : List D)
  /-- a dict by its keys, ints and texts, in order, and what they lead to -/
  | dic (ks : List Key) (ds : List D)
abbrev DS := List (Option D)

structure Wd where
  K : PySem.W.Frag
  s : Option Addr
  b : Addr

mutual
inductive Rep (W : Wd) (M : Addr → Prop) (H : Hp) : V → D → Prop
  | non : Rep W M H .non .non
  | bl (b : Bool) : Rep W M H (.bl b) (.bl b)
  | int (i : Int) : Rep W M H (.int i) (.int i)
  | str (x : Str) : Rep W M H (.str x) (.str x)
  | ty (n : String) : Rep W M H (.ty n) (.ty n)
  | tup {a : Addr} {vs : List V} {ds : List D} : SqT W.K H a vs → Reps W M H vs ds → Rep W M H (.ref a) (.tup ds)
  | lst {a : Addr} {vs : List V} {ds : List D} : ¬ M a → H a = some (.lst vs) → Reps W M H vs ds → Rep W M H (.ref a) (.lst ds)
  | st {a : Addr} : W.s = some a → Rep W M H (.ref a) .st
  | obj (a : Addr) : Rep W M H (.ref a) (.obj a)
  | dct {a : Addr} {kvs : List (Key × V)} : ¬ M a → H a = some (.dK kvs) → Rep W M H (.ref a) .dct
  | rng {a : Addr} {n : Int} : ¬ M a → H a = some (.rng 0 n) → Rep W M H (.ref a) (.rng n)
  | ins {a C dx : Addr} {fs : List (Str × V)} {ns : List Str} {ds : List D} : ¬ M a → H a = some (.ins C dx fs) → fs.map (·.1) = ns → Reps W M H (fs.map (·.2)) ds → Rep W M H (.ref a) (.ins C ns ds)
  | exc {a dx : Addr} {fs : List (Str × V)} {ns : List Str} {ds : List D} : ¬ M dx → H dx = some (.xd fs) → fs.map (·.1) = ns → Reps W M H (fs.map (·.2)) ds → Rep W M H (.ref a) (.exc a dx ns ds)
  | xob0 {a C : Addr} : ¬ M a → H a = some (exo a C none) → Rep W M H (.ref a) (.xob C [] [])
  | xob {a C dx : Addr} {fs : List (Str × V)} {ns : List Str} {ds : List D} : ¬ M a → H a = some (exo a C (some dx)) → ¬ M dx → H dx = some (exd dx fs) → fs.map (·.1) = ns → Reps W M H (fs.map (·.2)) ds → Rep W M H (.ref a) (.xob C ns ds)
  | dic {a : Addr} {kvs : List (Key × V)} {ks : List Key} {ds : List D} : ¬ M a → H a = some (.dK kvs) → kvs.map (·.1) = ks → Reps W M H (kvs.map (·.2)) ds → Rep W M H (.ref a) (.dic ks ds)
inductive Reps (W : Wd) (M : Addr → Prop) (H : Hp) : List V → List D → Prop
  | nil : Reps W M H [] []
  | cons {v : V} {vs : List V} {d : D} {ds : List D} : Rep W M H v d → Reps W M H vs ds → Reps W M H (v :: vs) (d :: ds)
end

theorem Reps.length {W : Wd} {M : Addr → Prop} {H : Hp} : ∀ {vs : List V} {ds : List D}, Reps W M H vs ds → vs.length = ds.length
  | _, _, .nil => rfl
  | _, _, .cons _ t => by
    show _ + 1 = _ + 1
    rw [t.length]
theorem Reps.get {W : Wd} {M : Addr → Prop} {H : Hp} : ∀ {vs : List V} {ds : List D} {i : Nat} {d : D}, Reps W M H vs ds → ds[i]? = some d → ∃ v, vs[i]? = some v ∧ Rep W M H v d
  | _, _, _, _, .nil, e => by simp at e
  | _, _, 0, _, .cons r _, e => by
    simp at e
    subst e
    exact ⟨_, rfl, r⟩
  | _, _, i + 1, d, .cons _ t, e => by
    obtain ⟨v, h1, h2⟩ := Reps.get (i := i) (d := d) t (by simpa using e)
    exact ⟨v, by simpa using h1, h2⟩
theorem Reps.got {W : Wd} {M : Addr → Prop} {H : Hp} : ∀ {vs : List V} {ds : List D} {i : Nat} {v : V}, Reps W M H vs ds → vs[i]? = some v → ∃ d, ds[i]? = some d ∧ Rep W M H v d
  | _, _, _, _, .nil, e => by simp at e
  | _, _, 0, _, .cons r _, e => by
    simp at e
    subst e
    exact ⟨_, rfl, r⟩
  | _, _, i + 1, v, .cons _ t, e => by
    obtain ⟨d, h1, h2⟩ := Reps.got (i := i) (v := v) t (by simpa using e)
    exact ⟨d, by simpa using h1, h2⟩
theorem Reps.append {W : Wd} {M : Addr → Prop} {H : Hp} : ∀ {vs us : List V} {ds es : List D}, Reps W M H vs ds → Reps W M H us es → Reps W M H (vs ++ us) (ds ++ es)
  | _, _, _, _, .nil, s => s
  | _, _, _, _, .cons r t, s => .cons r (t.append s)

/-! ### the world: what stands, what turns -/
/-- the list that a law draws from: [the script, the place, what is left, the mix] -/
def StAt (b : Addr) (H : Hp) (s : Addr) : Prop := ∃ (ns : List Int) (i c : Int) (m : Int × Int), H s = some (.lst [.ref b, .int i, .int c, .int m.1, .int m.2]) ∧ b ≠ s ∧ H b = some (.lst (ns.map V.int)) ∧ 0 ≤ i ∧ i ≤ 100 ∧ ns.length ≤ 63 ∧ 0 ≤ c ∧ 0 ≤ m.1 ∧ m.1 < 2147483647
def StOk (W : Wd) (H : Hp) : Prop := ∀ s, W.s = some s → StAt W.b H s
def Keep (W : Wd) (H H' : Hp) : Prop := ∀ a o, W.s ≠ some a → H a = some o → H' a = some o
structure Wf (W : Wd) (M : Addr → Prop) (H : Hp) : Prop where
  g : StOk W H
  sm : ∀ a, W.s = some a → M a
  dom : ∀ a, M a → ∃ o, H a = some o
structure Wg (W : Wd) (M : Addr → Prop) (H : Hp) : Prop where
  g : StOk W H
  sm : ∀ a, W.s = some a → M a
theorem Wf.wg {W : Wd} {M : Addr → Prop} {H : Hp} (w : Wf W M H) : Wg W M H := ⟨w.g, w.sm⟩
theorem Keep.refl {W : Wd} (H : Hp) : Keep W H H := fun _ _ _ h => h
theorem Keep.trans {W : Wd} {H H1 H2 : Hp} (a : Keep W H H1) (b : Keep W H1 H2) : Keep W H H2 := fun x o n h => b x o n (a x o n h)
theorem Keep.new {W : Wd} {H : Hp} {p : Addr} {o : HO} (h : H p = none) : Keep W H (upd H p o) := fun a u _ e => by
  rw [upd_ne (ne_of_none e h)]
  exact e
theorem StAt.new {b : Addr} {H : Hp} {s p : Addr} {o : HO} (h : H p = none) (g : StAt b H s) : StAt b (upd H p o) s := by
  obtain ⟨ns, i, c, m, h1, h2, h3, r⟩ := g
  exact ⟨ns, i, c, m, by rw [upd_ne (ne_of_none h1 h)]; exact h1, h2, by rw [upd_ne (ne_of_none h3 h)]; exact h3, r⟩
theorem StOk.new {W : Wd} {H : Hp} {p : Addr} {o : HO} (h : H p = none) (g : StOk W H) : StOk W (upd H p o) := fun s e => (g s e).new h
section
variable {W : Wd} {M M' : Addr → Prop} {H H' : Hp}
theorem Wf.next (w : Wf W M H) (g : StOk W H') (k : Keep W H H') : Wf W M H' := ⟨g, w.sm, fun a ha => by
  by_cases e : W.s = some a
  · obtain ⟨ns, i, c, m, h, _⟩ := g a e
    exact ⟨_, h⟩
  · obtain ⟨o, ho⟩ := w.dom a ha
    exact ⟨o, k a o e ho⟩⟩
theorem Wf.nots (w : Wf W M H) {a : Addr} {vs : List V} (h : SqT W.K H a vs) : (∃ o, (H a = some o ∧ W.s ≠ some a)) ∨ (∀ H2 : Hp, SqT W.K H2 a vs) := by
  rcases h with (h | ⟨o, h⟩) | h
  · refine .inl ⟨_, h, fun e => ?_⟩
    obtain ⟨ns, i, c, m, q, _⟩ := w.g a e
    rw [q] at h
    cases h
  · refine .inl ⟨_, h, fun e => ?_⟩
    obtain ⟨ns, i, c, m, q, _⟩ := w.g a e
    rw [q] at h
    cases h
  · exact .inr fun _ => .inr h
theorem sqT_keep (w : Wg W M H) (k : Keep W H H') {a : Addr} {vs : List V} (h : SqT W.K H a vs) : SqT W.K H' a vs := by
  rcases h with (h | ⟨o, h⟩) | h
  · refine .inl (.inl (k a _ (fun e => ?_) h))
    obtain ⟨ns, i, c, m, q, _⟩ := w.g a e
    rw [q] at h
    cases h
  · refine .inl (.inr ⟨o, k a _ (fun e => ?_) h⟩)
    obtain ⟨ns, i, c, m, q, _⟩ := w.g a e
    rw [q] at h
    cases h
  · exact .inr h
theorem rdL_keep (w : Wg W M H) (k : Keep W H H') {a : Addr} {vs : List V} (n : ¬ M a) (h : H a = some (.lst vs)) : H' a = some (.lst vs) := k a _ (fun e => n (w.sm a e)) h
mutual
theorem Rep.keepG (w : Wg W M H) (k : Keep W H H') : ∀ {v : V} {d : D}, Rep W M H v d → Rep W M H' v d
  | _, _, .non => .non
  | _, _, .bl b => .bl b
  | _, _, .int i => .int i
  | _, _, .str x => .str x
  | _, _, .ty n => .ty n
  | _, _, .tup h r => .tup (sqT_keep w k h) (r.keepG w k)
  | _, _, .lst n h r => .lst n (rdL_keep w k n h) (r.keepG w k)
  | _, _, .st e => .st e
  | _, _, .obj a => .obj a
  | _, _, .dct n h => .dct n (k _ _ (fun e => n (w.sm _ e)) h)
  | _, _, .rng n h => .rng n (k _ _ (fun e => n (w.sm _ e)) h)
  | _, _, .ins n h e r => .ins n (k _ _ (fun e => n (w.sm _ e)) h) e (r.keepG w k)
  | _, _, .exc n h e r => .exc n (k _ _ (fun e => n (w.sm _ e)) h) e (r.keepG w k)
  | _, _, .xob0 n h => .xob0 n (k _ _ (fun e => n (w.sm _ e)) h)
  | _, _, .xob n h n2 h2 e r => .xob n (k _ _ (fun e => n (w.sm _ e)) h) n2 (k _ _ (fun e => n2 (w.sm _ e)) h2) e (r.keepG w k)
  | _, _, .dic n h e r => .dic n (k _ _ (fun e => n (w.sm _ e)) h) e (r.keepG w k)
theorem Reps.keepG (w : Wg W M H) (k : Keep W H H') : ∀ {vs : List V} {ds : List D}, Reps W M H vs ds → Reps W M H' vs ds
  | _, _, .nil => .nil
  | _, _, .cons r t => .cons (r.keepG w k) (t.keepG w k)
end
theorem Rep.keep (w : Wf W M H) (k : Keep W H H') {v : V} {d : D} (r : Rep W M H v d) : Rep W M H' v d := r.keepG w.wg k
theorem Reps.keep (w : Wf W M H) (k : Keep W H H') {vs : List V} {ds : List D} (r : Reps W M H vs ds) : Reps W M H' vs ds := r.keepG w.wg k
/-- a list that may turn turns: the rest stands -/
theorem sqT_upd {p : Addr} {o : HO} (hp : ∀ a vs, Rd H a (.tup vs) → a ≠ p) {a : Addr} {vs : List V} (h : SqT W.K H a vs) : SqT W.K (upd H p o) a vs := by
  rcases h with h | h
  · have e := hp a vs h
    rcases h with h | ⟨u, h⟩
    · exact .inl (.inl (by rw [upd_ne e]; exact h))
    · exact .inl (.inr ⟨u, by rw [upd_ne e]; exact h⟩)
  · exact .inr h
theorem rdT_lst {p : Addr} {xs : List V} (hp : H p = some (.lst xs)) : ∀ a vs, Rd H a (.tup vs) → a ≠ p := fun a vs h => by
  rcases h with h | ⟨u, h⟩
  · exact ne_of h hp (by intro z; cases z)
  · exact ne_of h hp (by intro z; cases z)
theorem rdT_ins {p C dx : Addr} {fs : List (Str × V)} (hp : H p = some (.ins C dx fs)) : ∀ a vs, Rd H a (.tup vs) → a ≠ p := fun a vs h => by
  rcases h with h | ⟨u, h⟩
  · exact ne_of h hp (by intro z; cases z)
  · exact ne_of h hp (by intro z; cases z)
theorem rdL_upd {p : Addr} {o : HO} {a : Addr} {vs : List V} (hp : M p) (n : ¬ M a) (h : H a = some (.lst vs)) : upd H p o a = some (.lst vs) := by
  have e : a ≠ p := fun z => n (by rw [z]; exact hp)
  rw [upd_ne e]
  exact h
theorem atU_upd {p : Addr} {o u : HO} {a : Addr} (hp : M p) (n : ¬ M a) (h : H a = some u) : upd H p o a = some u := by
  have e : a ≠ p := fun z => n (by rw [z]; exact hp)
  rw [upd_ne e]
  exact h
mutual
theorem Rep.upd {p : Addr} {o : HO} (hp : ∀ a vs, Rd H a (.tup vs) → a ≠ p) (hm : M p) : ∀ {v : V} {d : D}, Rep W M H v d → Rep W M (upd H p o) v d
  | _, _, .non => .non
  | _, _, .bl b => .bl b
  | _, _, .int i => .int i
  | _, _, .str x => .str x
  | _, _, .ty n => .ty n
  | _, _, .tup h r => .tup (sqT_upd hp h) (r.upd hp hm)
  | _, _, .lst n h r => .lst n (rdL_upd hm n h) (r.upd hp hm)
  | _, _, .st e => .st e
  | _, _, .obj a => .obj a
  | _, _, .dct n h => .dct n (atU_upd hm n h)
  | _, _, .rng n h => .rng n (atU_upd hm n h)
  | _, _, .ins n h e r => .ins n (atU_upd hm n h) e (r.upd hp hm)
  | _, _, .exc n h e r => .exc n (atU_upd hm n h) e (r.upd hp hm)
  | _, _, .xob0 n h => .xob0 n (atU_upd hm n h)
  | _, _, .xob n h n2 h2 e r => .xob n (atU_upd hm n h) n2 (atU_upd hm n2 h2) e (r.upd hp hm)
  | _, _, .dic n h e r => .dic n (atU_upd hm n h) e (r.upd hp hm)
theorem Reps.upd {p : Addr} {o : HO} (hp : ∀ a vs, Rd H a (.tup vs) → a ≠ p) (hm : M p) : ∀ {vs : List V} {ds : List D}, Reps W M H vs ds → Reps W M (upd H p o) vs ds
  | _, _, .nil => .nil
  | _, _, .cons r t => .cons (r.upd hp hm) (t.upd hp hm)
end
mutual
theorem Rep.anti (m : ∀ a, M' a → M a) : ∀ {v : V} {d : D}, Rep W M H v d → Rep W M' H v d
  | _, _, .non => .non
  | _, _, .bl b => .bl b
  | _, _, .int i => .int i
  | _, _, .str x => .str x
  | _, _, .ty n => .ty n
  | _, _, .tup h r => .tup h (r.anti m)
  | _, _, .lst n h r => .lst (fun x => n (m _ x)) h (r.anti m)
  | _, _, .st e => .st e
  | _, _, .obj a => .obj a
  | _, _, .dct n h => .dct (fun x => n (m _ x)) h
  | _, _, .rng n h => .rng (fun x => n (m _ x)) h
  | _, _, .ins n h e r => .ins (fun x => n (m _ x)) h e (r.anti m)
  | _, _, .exc n h e r => .exc (fun x => n (m _ x)) h e (r.anti m)
  | _, _, .xob0 n h => .xob0 (fun x => n (m _ x)) h
  | _, _, .xob n h n2 h2 e r => .xob (fun x => n (m _ x)) h (fun x => n2 (m _ x)) h2 e (r.anti m)
  | _, _, .dic n h e r => .dic (fun x => n (m _ x)) h e (r.anti m)
theorem Reps.anti (m : ∀ a, M' a → M a) : ∀ {vs : List V} {ds : List D}, Reps W M H vs ds → Reps W M' H vs ds
  | _, _, .nil => .nil
  | _, _, .cons r t => .cons (r.anti m) (t.anti m)
end
mutual
theorem Rep.more (n : ∀ a, M' a → ¬ M a → H a = none) : ∀ {v : V} {d : D}, Rep W M H v d → Rep W M' H v d
  | _, _, .non => .non
  | _, _, .bl b => .bl b
  | _, _, .int i => .int i
  | _, _, .str x => .str x
  | _, _, .ty n => .ty n
  | _, _, .tup h r => .tup h (r.more n)
  | _, _, .lst na h r => .lst (fun x => by
      rw [n _ x na] at h
      cases h) h (r.more n)
  | _, _, .st e => .st e
  | _, _, .obj a => .obj a
  | _, _, .dct na h => .dct (fun x => by
      rw [n _ x na] at h
      cases h) h
  | _, _, .rng na h => .rng (fun x => by
      rw [n _ x na] at h
      cases h) h
  | _, _, .ins na h e r => .ins (fun x => by
      rw [n _ x na] at h
      cases h) h e (r.more n)
  | _, _, .exc na h e r => .exc (fun x => by
      rw [n _ x na] at h
      cases h) h e (r.more n)
  | _, _, .xob0 na h => .xob0 (fun x => by
      rw [n _ x na] at h
      cases h) h
  | _, _, .xob na h n2 h2 e r => .xob (fun x => by
      rw [n _ x na] at h
      cases h) h (fun x => by
      rw [n _ x n2] at h2
      cases h2) h2 e (r.more n)
  | _, _, .dic na h e r => .dic (fun x => by
      rw [n _ x na] at h
      cases h) h e (r.more n)
theorem Reps.more (n : ∀ a, M' a → ¬ M a → H a = none) : ∀ {vs : List V} {ds : List D}, Reps W M H vs ds → Reps W M' H vs ds
  | _, _, .nil => .nil
  | _, _, .cons r t => .cons (r.more n) (t.more n)
end
/-- all stands, but for lists of M -/
def KeepM (W : Wd) (M : Addr → Prop) (H H' : Hp) : Prop := ∀ a o, W.s ≠ some a → (M a → ∀ vs, o ≠ .lst vs) → H a = some o → H' a = some o
theorem KeepM.mono (k : KeepM W M H H') (m : ∀ a, M a → M' a) : KeepM W M' H H' := fun a o n l h => k a o n (fun x => l (m a x)) h
theorem Keep.toM (k : Keep W H H') : KeepM W M H H' := fun a o n _ h => k a o n h
theorem sqT_keepM (w : Wg W M H) (k : KeepM W M H H') {a : Addr} {vs : List V} (h : SqT W.K H a vs) : SqT W.K H' a vs := by
  have no : ∀ {o : HO}, H a = some o → (∀ xs, o ≠ .lst xs) → W.s ≠ some a := fun {o} h n e => by
    obtain ⟨ns, i, c, m, q, _⟩ := w.g a e
    rw [h] at q
    exact n _ (Option.some.inj q)
  rcases h with (h | ⟨o, h⟩) | h
  · exact .inl (.inl (k a _ (no h fun _ z => by cases z) (fun _ _ z => by cases z) h))
  · exact .inl (.inr ⟨o, k a _ (no h fun _ z => by cases z) (fun _ _ z => by cases z) h⟩)
  · exact .inr h
theorem rdL_keepM (w : Wg W M H) (k : KeepM W M H H') {a : Addr} {vs : List V} (n : ¬ M a) (h : H a = some (.lst vs)) : H' a = some (.lst vs) := k a _ (fun e => n (w.sm a e)) (fun m => absurd m n) h
mutual
theorem Rep.keepM (w : Wg W M H) (k : KeepM W M H H') : ∀ {v : V} {d : D}, Rep W M H v d → Rep W M H' v d
  | _, _, .non => .non
  | _, _, .bl b => .bl b
  | _, _, .int i => .int i
  | _, _, .str x => .str x
  | _, _, .ty n => .ty n
  | _, _, .tup h r => .tup (sqT_keepM w k h) (r.keepM w k)
  | _, _, .lst n h r => .lst n (rdL_keepM w k n h) (r.keepM w k)
  | _, _, .st e => .st e
  | _, _, .obj a => .obj a
  | _, _, .dct n h => .dct n (k _ _ (fun e => n (w.sm _ e)) (fun m => absurd m n) h)
  | _, _, .rng n h => .rng n (k _ _ (fun e => n (w.sm _ e)) (fun m => absurd m n) h)
  | _, _, .ins n h e r => .ins n (k _ _ (fun e => n (w.sm _ e)) (fun m => absurd m n) h) e (r.keepM w k)
  | _, _, .exc n h e r => .exc n (k _ _ (fun e => n (w.sm _ e)) (fun m => absurd m n) h) e (r.keepM w k)
  | _, _, .xob0 n h => .xob0 n (k _ _ (fun e => n (w.sm _ e)) (fun m => absurd m n) h)
  | _, _, .xob n h n2 h2 e r => .xob n (k _ _ (fun e => n (w.sm _ e)) (fun m => absurd m n) h) n2 (k _ _ (fun e => n2 (w.sm _ e)) (fun m => absurd m n2) h2) e (r.keepM w k)
  | _, _, .dic n h e r => .dic n (k _ _ (fun e => n (w.sm _ e)) (fun m => absurd m n) h) e (r.keepM w k)
theorem Reps.keepM (w : Wg W M H) (k : KeepM W M H H') : ∀ {vs : List V} {ds : List D}, Reps W M H vs ds → Reps W M H' vs ds
  | _, _, .nil => .nil
  | _, _, .cons r t => .cons (r.keepM w k) (t.keepM w k)
end
end
end PD
namespace PD
/-! ### fractions -/
abbrev Fr := Int × Int
def gcdI (a b : Int) : Nat := Nat.gcd a.natAbs b.natAbs
def lowF (a b : Int) : Fr := (a / (gcdI a b : Int), b / (gcdI a b : Int))
def IsF (p : Fr) : Prop := 1 ≤ p.2 ∧ gcdI p.1 p.2 = 1
def addF (p q : Fr) : Fr := lowF (p.1 * q.2 + q.1 * p.2) (p.2 * q.2)
def mulF (p q : Fr) : Fr := lowF (p.1 * q.1) (p.2 * q.2)
def negF (p : Fr) : Fr := (-p.1, p.2)
theorem gcdI_pos {a b : Int} (h : b ≠ 0) : 0 < gcdI a b := Nat.gcd_pos_of_pos_right _ (by omega)
theorem gcdI_dvd1 (a b : Int) : ((gcdI a b : Nat) : Int) ∣ a := Int.ofNat_dvd_left.mpr (Nat.gcd_dvd_left _ _)
theorem gcdI_dvd2 (a b : Int) : ((gcdI a b : Nat) : Int) ∣ b := Int.ofNat_dvd_left.mpr (Nat.gcd_dvd_right _ _)
theorem gcdI_le {a b : Int} (h : b ≠ 0) : gcdI a b ≤ b.natAbs := Nat.le_of_dvd (by omega) (Nat.gcd_dvd_right _ _)
theorem lowF_isF {a b : Int} (h : 0 < b) : IsF (lowF a b) := by
  have hg : 0 < gcdI a b := gcdI_pos (by omega)
  have d1 := gcdI_dvd1 a b
  have d2 := gcdI_dvd2 a b
  constructor
  · show 1 ≤ b / (gcdI a b : Int)
    have : (gcdI a b : Int) ≤ b := Int.le_of_dvd h d2
    have := (Int.le_ediv_iff_mul_le (a := 1) (b := b) (c := (gcdI a b : Int)) (by omega)).mpr (by omega)
    exact this
  · show Nat.gcd (a / (gcdI a b : Int)).natAbs (b / (gcdI a b : Int)).natAbs = 1
    rw [Int.natAbs_ediv_of_dvd d1, Int.natAbs_ediv_of_dvd d2]
    show Nat.gcd (a.natAbs / gcdI a b) (b.natAbs / gcdI a b) = 1
    exact Nat.coprime_div_gcd_div_gcd hg
theorem lowF_cross {a b : Int} (h : 0 < b) : (lowF a b).1 * b = a * (lowF a b).2 := by
  obtain ⟨x, hx⟩ := gcdI_dvd1 a b
  obtain ⟨y, hy⟩ := gcdI_dvd2 a b
  have hg : (gcdI a b : Int) ≠ 0 := by have := gcdI_pos (a := a) (b := b) (by omega); omega
  show a / (gcdI a b : Int) * b = a * (b / (gcdI a b : Int))
  have e1 : a / (gcdI a b : Int) = x := by
    conv => lhs; rw [show a / (gcdI a b : Int) = ((gcdI a b : Int) * x) / (gcdI a b : Int) by rw [← hx]]
    exact Int.mul_ediv_cancel_left x hg
  have e2 : b / (gcdI a b : Int) = y := by
    conv => lhs; rw [show b / (gcdI a b : Int) = ((gcdI a b : Int) * y) / (gcdI a b : Int) by rw [← hy]]
    exact Int.mul_ediv_cancel_left y hg
  rw [e1, e2]
  generalize (gcdI a b : Int) = g at *
  rw [hx, hy]
  grind
theorem cross_dvd {a b c d : Int} (h : gcdI a b = 1) (e : a * d = c * b) : b ∣ d := by
  have h1 : b.natAbs ∣ a.natAbs * d.natAbs := by
    rw [← Int.natAbs_mul, e, Int.natAbs_mul]
    exact Nat.dvd_mul_left _ _
  have h2 : Nat.Coprime b.natAbs a.natAbs := by
    show Nat.gcd _ _ = 1
    rw [Nat.gcd_comm]
    exact h
  exact Int.natAbs_dvd_natAbs.mp (h2.dvd_of_dvd_mul_left h1)
theorem isF_inj {p q : Fr} (hp : IsF p) (hq : IsF q) (e : p.1 * q.2 = q.1 * p.2) : p = q := by
  obtain ⟨a, b⟩ := p
  obtain ⟨c, d⟩ := q
  obtain ⟨hb, hp⟩ := hp
  obtain ⟨hd, hq⟩ := hq
  simp only at *
  have d1 : b ∣ d := cross_dvd hp e
  have d2 : d ∣ b := cross_dvd (a := c) (b := d) (c := a) (d := b) hq e.symm
  have e2 : b = d := Int.dvd_antisymm (by omega) (by omega) d1 d2
  subst e2
  have e3 : a = c := Int.eq_of_mul_eq_mul_right (by omega) e
  rw [e3]
theorem lowF_eq {a b : Int} {p : Fr} (h : 0 < b) (hp : IsF p) (e : p.1 * b = a * p.2) : lowF a b = p := by
  refine isF_inj (lowF_isF h) hp ?_
  have e1 := lowF_cross (a := a) h
  have hb : b ≠ 0 := by omega
  apply Int.eq_of_mul_eq_mul_right hb
  grind
theorem lowF_self {p : Fr} (hp : IsF p) : lowF p.1 p.2 = p := lowF_eq (by have := hp.1; omega) hp rfl
theorem addF_isF {p q : Fr} (hp : IsF p) (hq : IsF q) : IsF (addF p q) := lowF_isF (Int.mul_pos (by have := hp.1; omega) (by have := hq.1; omega))
theorem mulF_isF {p q : Fr} (hp : IsF p) (hq : IsF q) : IsF (mulF p q) := lowF_isF (Int.mul_pos (by have := hp.1; omega) (by have := hq.1; omega))
theorem negF_isF {p : Fr} (hp : IsF p) : IsF (negF p) := ⟨hp.1, by
  show Nat.gcd (-p.1).natAbs p.2.natAbs = 1
  rw [Int.natAbs_neg]
  exact hp.2⟩
theorem addF_cross {p q : Fr} (hp : IsF p) (hq : IsF q) : (addF p q).1 * (p.2 * q.2) = (p.1 * q.2 + q.1 * p.2) * (addF p q).2 := lowF_cross (Int.mul_pos (by have := hp.1; omega) (by have := hq.1; omega))
theorem mulF_cross {p q : Fr} (hp : IsF p) (hq : IsF q) : (mulF p q).1 * (p.2 * q.2) = (p.1 * q.1) * (mulF p q).2 := lowF_cross (Int.mul_pos (by have := hp.1; omega) (by have := hq.1; omega))
theorem addF_negF {p q : Fr} (hp : IsF p) (hq : IsF q) : addF (addF p q) (negF q) = p := by
  have hs := addF_isF hp hq
  have e := addF_cross hp hq
  refine lowF_eq (Int.mul_pos (by have := hs.1; omega) (by have := hq.1; exact this)) hp ?_
  show p.1 * ((addF p q).2 * q.2) = ((addF p q).1 * q.2 + (-q.1) * (addF p q).2) * p.2
  grind
theorem addF_comm (p q : Fr) : addF p q = addF q p := by
  unfold addF
  rw [Int.add_comm, Int.mul_comm p.2 q.2]
theorem mulF_two {p : Fr} (hp : IsF p) : mulF p (2, 1) = addF p p := by
  have ha := addF_isF hp hp
  have e := addF_cross hp hp
  have h1 := hp.1
  refine lowF_eq (by show 0 < p.2 * 1; omega) ha ?_
  show (addF p p).1 * (p.2 * 1) = (p.1 * 2) * (addF p p).2
  apply Int.eq_of_mul_eq_mul_right (a := p.2) (by omega)
  grind
theorem mulF_three {p : Fr} (hp : IsF p) : mulF p (3, 1) = addF (addF p p) p := by
  have ha := addF_isF hp hp
  have hb := addF_isF ha hp
  have e := addF_cross hp hp
  have e2 := addF_cross ha hp
  have h1 := hp.1
  have h2 := ha.1
  refine lowF_eq (by show 0 < p.2 * 1; omega) hb ?_
  show (addF (addF p p) p).1 * (p.2 * 1) = (p.1 * 3) * (addF (addF p p) p).2
  generalize addF (addF p p) p = z at *
  generalize addF p p = y at *
  apply Int.eq_of_mul_eq_mul_right (a := y.2 * p.2 * p.2) (Int.ne_of_gt (Int.mul_pos (Int.mul_pos (by omega) (by omega)) (by omega)))
  grind
theorem mulF_neg {p : Fr} (hp : IsF p) : mulF p (-1, 1) = addF (addF p (negF p)) (negF p) := by
  have hn := negF_isF hp
  have ha := addF_isF hp hn
  have hb := addF_isF ha hn
  have e := addF_cross hp hn
  have e2 := addF_cross ha hn
  have h1 := hp.1
  have h2 := ha.1
  refine lowF_eq (by show 0 < p.2 * 1; omega) hb ?_
  show (addF (addF p (negF p)) (negF p)).1 * (p.2 * 1) = (p.1 * -1) * (addF (addF p (negF p)) (negF p)).2
  generalize addF (addF p (negF p)) (negF p) = z at *
  have e3 : (negF p).1 = -p.1 := rfl
  have e4 : (negF p).2 = p.2 := rfl
  rw [e3, e4] at e e2
  generalize addF p (negF p) = y at *
  apply Int.eq_of_mul_eq_mul_right (a := y.2 * p.2 * p.2) (Int.ne_of_gt (Int.mul_pos (Int.mul_pos (by omega) (by omega)) (by omega)))
  grind
end PD
namespace PD
/-! ### fractions as rational numbers -/
def toQ (p : Fr) : Rat := Rat.divInt p.1 p.2
theorem toQ_inj {p q : Fr} (hp : IsF p) (hq : IsF q) (e : toQ p = toQ q) : p = q :=
  isF_inj hp hq ((Rat.divInt_eq_divInt_iff (by have := hp.1; omega) (by have := hq.1; omega)).mp e)
theorem toQ_low {a b : Int} (h : 0 < b) : toQ (lowF a b) = Rat.divInt a b :=
  (Rat.divInt_eq_divInt_iff (by have := (lowF_isF (a := a) h).1; omega) (by omega)).mpr (lowF_cross h)
theorem toQ_mul {p q : Fr} (hp : 0 < p.2) (hq : 0 < q.2) : toQ (mulF p q) = toQ p * toQ q := by
  unfold mulF
  rw [toQ_low (Int.mul_pos hp hq)]
  exact (Rat.divInt_mul_divInt _ _).symm
theorem toQ_ne {p : Fr} (h1 : 0 < p.1) (h2 : 0 < p.2) : toQ p ≠ 0 := by
  intro z
  have := (Rat.divInt_eq_divInt_iff (n₂ := 0) (d₂ := 1) (by omega) (by omega)).mp (z.trans (by decide))
  omega
theorem q_mul_pow (a b : Rat) : ∀ n : Nat, (a * b) ^ n = a ^ n * b ^ n
  | 0 => by rw [Rat.pow_zero, Rat.pow_zero, Rat.pow_zero, Rat.one_mul]
  | n + 1 => by
    rw [Rat.pow_succ, Rat.pow_succ, Rat.pow_succ, q_mul_pow a b n]
    grind
theorem q_ne_pow {a : Rat} (h : a ≠ 0) : ∀ n : Nat, a ^ n ≠ 0
  | 0 => by rw [Rat.pow_zero]; decide
  | n + 1 => by
    rw [Rat.pow_succ]
    intro z
    rcases Rat.mul_eq_zero.mp z with z | z
    · exact q_ne_pow h n z
    · exact h z
theorem q_mul_zpow {a b : Rat} (ha : a ≠ 0) (hb : b ≠ 0) (n : Int) : (a * b) ^ n = a ^ n * b ^ n := by
  rcases Int.eq_nat_or_neg n with ⟨m, rfl | rfl⟩
  · rw [Rat.zpow_natCast, Rat.zpow_natCast, Rat.zpow_natCast, q_mul_pow]
  · rw [Rat.zpow_neg, Rat.zpow_neg, Rat.zpow_neg, Rat.zpow_natCast, Rat.zpow_natCast, Rat.zpow_natCast, q_mul_pow]
    have h1 := q_ne_pow ha m
    have h2 := q_ne_pow hb m
    grind
theorem q_zpow_mul {a : Rat} (ha : a ≠ 0) (n : Int) : ∀ m : Nat, a ^ (n * m) = (a ^ n) ^ m
  | 0 => by simp
  | m + 1 => by
    rw [Rat.pow_succ, ← q_zpow_mul ha n m, ← Rat.zpow_add ha]
    congr 1
    grind
theorem toQ_powN {p : Fr} (h2 : 0 < p.2) : ∀ n : Nat, toQ (p.1 ^ n, p.2 ^ n) = toQ p ^ n
  | 0 => by
    rw [Rat.pow_zero]
    show Rat.divInt (p.1 ^ 0) (p.2 ^ 0) = 1
    rw [Int.pow_zero, Int.pow_zero]
    decide
  | n + 1 => by
    rw [Rat.pow_succ, ← toQ_powN h2 n]
    show Rat.divInt (p.1 ^ (n + 1)) (p.2 ^ (n + 1)) = Rat.divInt (p.1 ^ n) (p.2 ^ n) * Rat.divInt p.1 p.2
    rw [Rat.divInt_mul_divInt, Int.pow_succ, Int.pow_succ]
/-- a fraction above 0 to an integer power -/
def powF (p : Fr) (e : Int) : Fr := if e < 0 then (p.2 ^ e.natAbs, p.1 ^ e.natAbs) else (p.1 ^ e.natAbs, p.2 ^ e.natAbs)
theorem toQ_pow {p : Fr} (h1 : 0 < p.1) (h2 : 0 < p.2) (e : Int) : toQ (powF p e) = toQ p ^ e := by
  unfold powF
  split
  · rename_i h
    have e1 : e = -(e.natAbs : Int) := by omega
    conv => rhs; rw [e1]
    rw [Rat.zpow_neg, Rat.zpow_natCast, ← toQ_powN h2]
    exact (Rat.inv_divInt _ _).symm
  · rename_i h
    have e1 : e = (e.natAbs : Int) := by omega
    conv => rhs; rw [e1]
    rw [Rat.zpow_natCast, ← toQ_powN h2]
theorem gcd_pows {a b : Int} (h : gcdI a b = 1) (n : Nat) : gcdI (a ^ n) (b ^ n) = 1 := by
  show Nat.gcd (a ^ n).natAbs (b ^ n).natAbs = 1
  rw [Int.natAbs_pow, Int.natAbs_pow]
  exact Nat.Coprime.pow n n h
theorem pow_pos1 {a : Int} (h : 0 < a) : ∀ n : Nat, 1 ≤ a ^ n
  | 0 => by rw [Int.pow_zero]; decide
  | n + 1 => by
    rw [Int.pow_succ]
    have := Int.mul_pos (show 0 < a ^ n by have := pow_pos1 h n; omega) h
    omega
theorem powF_isF {p : Fr} (h1 : 0 < p.1) (hp : IsF p) (e : Int) : IsF (powF p e) := by
  have h2 : 0 < p.2 := by have := hp.1; omega
  unfold powF
  split
  · exact ⟨pow_pos1 h1 _, by
      show gcdI _ _ = 1
      have := gcd_pows hp.2 e.natAbs
      unfold gcdI at *
      rw [Nat.gcd_comm]
      exact this⟩
  · exact ⟨pow_pos1 h2 _, gcd_pows hp.2 _⟩
theorem powF_pos {p : Fr} (h1 : 0 < p.1) (h2 : 0 < p.2) (e : Int) : 0 < (powF p e).1 ∧ 0 < (powF p e).2 := by
  unfold powF
  split
  · exact ⟨pow_pos1 h2 _, pow_pos1 h1 _⟩
  · exact ⟨pow_pos1 h1 _, pow_pos1 h2 _⟩
theorem mulF_pos {p q : Fr} (h1 : 0 < p.1) (h2 : 0 < p.2) (h3 : 0 < q.1) (h4 : 0 < q.2) : 0 < (mulF p q).1 := by
  have hb := Int.mul_pos h2 h4
  have ha := Int.mul_pos h1 h3
  have e := lowF_cross (a := p.1 * q.1) hb
  have hz := (lowF_isF (a := p.1 * q.1) hb).1
  show 0 < (lowF (p.1 * q.1) (p.2 * q.2)).1
  have h : 0 < (lowF (p.1 * q.1) (p.2 * q.2)).1 * (p.2 * q.2) := by
    rw [e]
    exact Int.mul_pos ha (by omega)
  exact Int.pos_of_mul_pos_left h hb
/-- what the scale makes of an exponent -/
def expI (s : Int) (u : Fr) : Int := s * u.1 / u.2
theorem expI_mul {s : Int} {u : Fr} (h : u.2 ∣ s) : expI s u * u.2 = s * u.1 := Int.ediv_mul_cancel (Int.dvd_trans h (Int.dvd_mul_right _ _))
theorem expI_add {s : Int} {u v : Fr} (hu : IsF u) (hv : IsF v) (d1 : u.2 ∣ s) (d2 : v.2 ∣ s) : (addF u v).2 ∣ s ∧ expI s (addF u v) = expI s u + expI s v := by
  have e1 := expI_mul d1
  have e2 := expI_mul d2
  have e3 := addF_cross hu hv
  have hz := addF_isF hu hv
  have h1 := hu.1
  have h2 := hv.1
  generalize expI s u = a at *
  generalize expI s v = b at *
  have key : (a + b) * (addF u v).2 = s * (addF u v).1 := by
    apply Int.eq_of_mul_eq_mul_right (a := u.2 * v.2) (Int.ne_of_gt (Int.mul_pos (by omega) (by omega)))
    generalize (addF u v).1 = x at *
    generalize (addF u v).2 = y at *
    grind
  have d : (addF u v).2 ∣ s := by
    refine cross_dvd (a := (addF u v).1) (b := (addF u v).2) (c := a + b) (d := s) hz.2 ?_
    rw [Int.mul_comm, ← key]
  refine ⟨d, ?_⟩
  have e4 := expI_mul d
  have h3 := hz.1
  apply Int.eq_of_mul_eq_mul_right (a := (addF u v).2) (by omega)
  rw [e4, key]
theorem expI_scale {s : Int} {u : Fr} (h : u.2 ∣ s) (hu : 0 < u.2) (m : Int) : expI (s * m) u = expI s u * m := by
  have e1 := expI_mul h
  have e2 := expI_mul (s := s * m) (u := u) (Int.dvd_trans h (Int.dvd_mul_right _ _))
  apply Int.eq_of_mul_eq_mul_right (a := u.2) (by omega)
  rw [e2]
  grind
/-- the product that a change of units gives -/
def facF (s : Int) : Fr → List (Fr × Fr) → Fr
  | acc, [] => acc
  | acc, (u, r) :: l => facF s (mulF acc (powF r (expI s u))) l
def facQ (s : Int) : List (Fr × Fr) → Rat
  | [] => 1
  | (u, r) :: l => toQ r ^ expI s u * facQ s l
def PosL (l : List (Fr × Fr)) : Prop := ∀ x ∈ l, IsF x.2 ∧ 0 < x.2.1
theorem facF_ok {s : Int} : ∀ {l : List (Fr × Fr)} {acc : Fr}, PosL l → IsF acc → 0 < acc.1 → IsF (facF s acc l) ∧ 0 < (facF s acc l).1 ∧ toQ (facF s acc l) = toQ acc * facQ s l
  | [], acc, _, h, hp => ⟨h, hp, by show _ = _ * (1 : Rat); rw [Rat.mul_one]; rfl⟩
  | (u, r) :: l, acc, hl, h, hp => by
    have hr := hl (u, r) List.mem_cons_self
    have h2 : 0 < r.2 := by have : 1 ≤ r.2 := hr.1.1; omega
    have hw := powF_isF hr.2 hr.1 (expI s u)
    have hwp := powF_pos hr.2 h2 (expI s u)
    have ha : 0 < acc.2 := by have := h.1; omega
    obtain ⟨i1, i2, i3⟩ := facF_ok (s := s) (l := l) (acc := mulF acc (powF r (expI s u))) (fun x hx => hl x (List.mem_cons_of_mem _ hx)) (mulF_isF h hw) (mulF_pos hp ha hwp.1 hwp.2)
    refine ⟨i1, i2, ?_⟩
    show toQ (facF s (mulF acc (powF r (expI s u))) l) = toQ acc * (toQ r ^ expI s u * facQ s l)
    rw [i3, toQ_mul ha hwp.2, toQ_pow hr.2 h2]
    grind
theorem facF_ext {s t : Int} {l k : List (Fr × Fr)} {acc bcc : Fr} (hl : PosL l) (hk : PosL k) (ha : IsF acc) (hap : 0 < acc.1) (hb : IsF bcc) (hbp : 0 < bcc.1) (e : toQ acc * facQ s l = toQ bcc * facQ t k) : facF s acc l = facF t bcc k := by
  obtain ⟨a1, _, a3⟩ := facF_ok (s := s) hl ha hap
  obtain ⟨b1, _, b3⟩ := facF_ok (s := t) hk hb hbp
  exact toQ_inj a1 b1 (a3.trans (e.trans b3.symm))
theorem one_isF : IsF (1, 1) := ⟨by decide, by decide⟩
theorem one_Q : toQ (1, 1) = 1 := by decide
theorem facQ_ne {s : Int} : ∀ {l : List (Fr × Fr)}, PosL l → facQ s l ≠ 0
  | [], _ => by show (1 : Rat) ≠ 0; decide
  | (u, r) :: l, hl => by
    have hr := hl (u, r) List.mem_cons_self
    have h2 : 0 < r.2 := by have : 1 ≤ r.2 := hr.1.1; omega
    have h1 : toQ r ^ expI s u ≠ 0 := by
      rw [← toQ_pow hr.2 h2]
      exact toQ_ne (powF_pos hr.2 h2 _).1 (powF_pos hr.2 h2 _).2
    intro z
    rcases Rat.mul_eq_zero.mp z with z | z
    · exact h1 z
    · exact facQ_ne (fun x hx => hl x (List.mem_cons_of_mem _ hx)) z
theorem addF_self_neg {p : Fr} (hp : IsF p) : addF p (negF p) = (0, 1) := by
  have h1 := hp.1
  refine lowF_eq (Int.mul_pos (by omega) (by show 0 < p.2; omega)) ⟨by decide, by decide⟩ ?_
  show 0 * (p.2 * p.2) = (p.1 * p.2 + (-p.1) * p.2) * 1
  grind
theorem mulF_one {p : Fr} (hp : IsF p) : mulF p (1, 1) = p := by
  have h1 := hp.1
  refine lowF_eq (by show 0 < p.2 * 1; omega) hp ?_
  show p.1 * (p.2 * 1) = (p.1 * 1) * p.2
  grind
theorem powF_zero (p : Fr) : powF p 0 = (1, 1) := by
  unfold powF
  rw [if_neg (by decide)]
  show (p.1 ^ 0, p.2 ^ 0) = _
  rw [Int.pow_zero, Int.pow_zero]
theorem facF_zero {s : Int} : ∀ {l : List (Fr × Fr)} {acc : Fr}, (∀ x ∈ l, x.1 = (0, 1)) → IsF acc → facF s acc l = acc
  | [], _, _, _ => rfl
  | (u, r) :: l, acc, h, ha => by
    have e : u = (0, 1) := h (u, r) List.mem_cons_self
    subst e
    show facF s (mulF acc (powF r (expI s (0, 1)))) l = acc
    rw [show expI s (0, 1) = 0 by unfold expI; simp, powF_zero, mulF_one ha]
    exact facF_zero (fun x hx => h x (List.mem_cons_of_mem _ hx)) ha
theorem facQ_add {s : Int} : ∀ {u v rs : List Fr}, u.length = rs.length → v.length = rs.length → (∀ p ∈ u, IsF p ∧ p.2 ∣ s) → (∀ p ∈ v, IsF p ∧ p.2 ∣ s) → (∀ r ∈ rs, IsF r ∧ 0 < r.1) →
    facQ s ((List.zipWith addF u v).zip rs) = facQ s (u.zip rs) * facQ s (v.zip rs)
  | [], [], [], _, _, _, _, _ => by show (1 : Rat) = 1 * 1; rw [Rat.mul_one]
  | [], _ :: _, rs, h1, h2, _, _, _ => by
    simp only [List.length_nil, List.length_cons] at h1 h2
    omega
  | _ :: _, [], rs, h1, h2, _, _, _ => by
    simp only [List.length_nil, List.length_cons] at h1 h2
    omega
  | p :: u, q :: v, r :: rs, h1, h2, hu, hv, hr => by
    have hp := hu p List.mem_cons_self
    have hq := hv q List.mem_cons_self
    have hr0 := hr r List.mem_cons_self
    have ih := facQ_add (s := s) (u := u) (v := v) (rs := rs) (by simpa using h1) (by simpa using h2) (fun x hx => hu x (List.mem_cons_of_mem _ hx)) (fun x hx => hv x (List.mem_cons_of_mem _ hx)) (fun x hx => hr x (List.mem_cons_of_mem _ hx))
    show toQ r ^ expI s (addF p q) * facQ s ((List.zipWith addF u v).zip rs) = (toQ r ^ expI s p * facQ s (u.zip rs)) * (toQ r ^ expI s q * facQ s (v.zip rs))
    rw [ih, (expI_add hp.1 hq.1 hp.2 hq.2).2, Rat.zpow_add (toQ_ne hr0.2 (by have : 1 ≤ r.2 := hr0.1.1; omega))]
    grind
theorem facQ_roots {s : Int} : ∀ {u rs ms : List Fr}, u.length = rs.length → u.length = ms.length → (∀ r ∈ rs, IsF r ∧ 0 < r.1) → (∀ r ∈ ms, IsF r ∧ 0 < r.1) →
    facQ s (u.zip (List.zipWith mulF rs ms)) = facQ s (u.zip rs) * facQ s (u.zip ms)
  | [], [], [], _, _, _, _ => by show (1 : Rat) = 1 * 1; rw [Rat.mul_one]
  | p :: u, r :: rs, m :: ms, h1, h2, hr, hm => by
    have hr0 := hr r List.mem_cons_self
    have hm0 := hm m List.mem_cons_self
    have r2 : 0 < r.2 := by have : 1 ≤ r.2 := hr0.1.1; omega
    have m2 : 0 < m.2 := by have : 1 ≤ m.2 := hm0.1.1; omega
    have ih := facQ_roots (s := s) (u := u) (rs := rs) (ms := ms) (by simpa using h1) (by simpa using h2) (fun x hx => hr x (List.mem_cons_of_mem _ hx)) (fun x hx => hm x (List.mem_cons_of_mem _ hx))
    show toQ (mulF r m) ^ expI s p * facQ s (u.zip (List.zipWith mulF rs ms)) = (toQ r ^ expI s p * facQ s (u.zip rs)) * (toQ m ^ expI s p * facQ s (u.zip ms))
    rw [ih, toQ_mul r2 m2, q_mul_zpow (toQ_ne hr0.2 r2) (toQ_ne hm0.2 m2)]
    grind
theorem facQ_scale {s : Int} {m : Nat} : ∀ {u rs : List Fr}, u.length = rs.length → (∀ p ∈ u, IsF p ∧ p.2 ∣ s) → (∀ r ∈ rs, IsF r ∧ 0 < r.1) → facQ (s * m) (u.zip rs) = facQ s (u.zip rs) ^ m
  | [], [], _, _, _ => by
    show (1 : Rat) = 1 ^ m
    induction m with
    | zero => rw [Rat.pow_zero]
    | succ m ih => rw [Rat.pow_succ, ← ih, Rat.mul_one]
  | [], _ :: _, h, _, _ => by simp at h
  | _ :: _, [], h, _, _ => by simp at h
  | p :: u, r :: rs, h1, hu, hr => by
    have hp := hu p List.mem_cons_self
    have hr0 := hr r List.mem_cons_self
    have r2 : 0 < r.2 := by have : 1 ≤ r.2 := hr0.1.1; omega
    have ih := facQ_scale (s := s) (m := m) (u := u) (rs := rs) (by simpa using h1) (fun x hx => hu x (List.mem_cons_of_mem _ hx)) (fun x hx => hr x (List.mem_cons_of_mem _ hx))
    show toQ r ^ expI (s * m) p * facQ (s * m) (u.zip rs) = (toQ r ^ expI s p * facQ s (u.zip rs)) ^ m
    rw [ih, expI_scale hp.2 (by have : 1 ≤ p.2 := hp.1.1; omega), q_zpow_mul (toQ_ne hr0.2 r2), q_mul_pow]
end PD
namespace PD
open PySem PySem.Spec PyProof.Rows L2

structure Slots (W : Wd) (M : Addr → Prop) (H : Hp) (σ : L2.St) (δ : DS) : Prop where
  len : σ.length = δ.length
  get : ∀ (i : Nat) (d : D), δ[i]? = some (some d) → ∃ v, σ[i]? = some (some v) ∧ Rep W M H v d
structure Pre (W : Wd) (M : Addr → Prop) (δ : DS) (σ : L2.St) (H : Hp) : Prop where
  wf : Wf W M H
  sl : Slots W M H σ δ
theorem Slots.set {W : Wd} {M : Addr → Prop} {H : Hp} {σ : L2.St} {δ : DS} (s : Slots W M H σ δ) (i : Nat) {v : V} {d : D} (r : Rep W M H v d) : Slots W M H (σ.set i (some v)) (δ.set i (some d)) where
  len := by rw [List.length_set, List.length_set]; exact s.len
  get := fun j e h => by
    by_cases hj : i = j
    · subst hj
      rw [List.getElem?_set] at h
      rw [List.getElem?_set]
      by_cases hl : i < δ.length
      · rw [if_pos rfl, if_pos hl] at h
        rw [if_pos rfl, if_pos (by rw [s.len]; exact hl)]
        have e1 : d = e := Option.some.inj (Option.some.inj h)
        subst e1
        exact ⟨v, rfl, r⟩
      · rw [if_pos rfl, if_neg hl] at h
        cases h
    · rw [List.getElem?_set, if_neg hj] at h
      rw [List.getElem?_set, if_neg hj]
      exact s.get j e h
/-- a slot of which nothing is said -/
theorem Slots.drop {W : Wd} {M : Addr → Prop} {H : Hp} {σ : L2.St} {δ : DS} (s : Slots W M H σ δ) (i : Nat) (x : Option V) : Slots W M H (σ.set i x) (δ.set i none) where
  len := by rw [List.length_set, List.length_set]; exact s.len
  get := fun j e h => by
    by_cases hj : i = j
    · subst hj
      rw [List.getElem?_set] at h
      by_cases hl : i < δ.length
      · rw [if_pos rfl, if_pos hl] at h
        cases h
      · rw [if_pos rfl, if_neg hl] at h
        cases h
    · rw [List.getElem?_set, if_neg hj] at h
      rw [List.getElem?_set, if_neg hj]
      exact s.get j e h
theorem Pre.next {W : Wd} {M : Addr → Prop} {δ : DS} {σ : L2.St} {H H' : Hp} (p : Pre W M δ σ H) (g : StOk W H') (k : Keep W H H') : Pre W M δ σ H' :=
  ⟨p.wf.next g k, p.sl.len, fun i d h => by
    obtain ⟨v, h1, h2⟩ := p.sl.get i d h
    exact ⟨v, h1, h2.keep p.wf k⟩⟩
def wipeD (δ : DS) : List Nat → DS
  | [] => δ
  | v :: vs => (wipeD δ vs).set v none
theorem Slots.wipe {W : Wd} {M : Addr → Prop} {H : Hp} {σ : L2.St} {δ : DS} (s : Slots W M H σ δ) : ∀ vs : List Nat, Slots W M H (L2.wipe σ vs) (wipeD δ vs)
  | [] => s
  | v :: vs => (s.wipe vs).drop v none

/-! ### what evaluates to what -/
def EvD (W : Wd) (te : TE) (δ : DS) (P : D → Prop) : Prop := ∀ (M : Addr → Prop) (σ : L2.St) (H : Hp), Pre W M δ σ H → ∀ Q : VK, (∀ v d H', StOk W H' → Keep W H H' → Rep W M H' v d → P d → Q v H') → te σ H Q
def EvT (W : Wd) (tt : TT) (δ : DS) (P : Bool → Prop) : Prop := ∀ (M : Addr → Prop) (σ : L2.St) (H : Hp), Pre W M δ σ H → ∀ Q : Bool → Hp → Prop, (∀ b H', StOk W H' → Keep W H H' → P b → Q b H') → tt σ H Q
def EvA (W : Wd) (ta : TA) (δ : DS) (P : List D → Prop) : Prop := ∀ (M : Addr → Prop) (σ : L2.St) (H : Hp), Pre W M δ σ H → ∀ Q : List V → Hp → Prop, (∀ vs ds H', StOk W H' → Keep W H H' → Reps W M H' vs ds → P ds → Q vs H') → ta σ H Q
def RD (W : Wd) (r : R2) (x y : D) (P : D → Prop) : Prop := ∀ (M : Addr → Prop) (H : Hp) (v u : V), Wf W M H → Rep W M H v x → Rep W M H u y → ∀ Q : VK, (∀ z d H', StOk W H' → Keep W H H' → Rep W M H' z d → P d → Q z H') → r v u H Q
def RUD (W : Wd) (r : V → Hp → VK → Prop) (x : D) (P : D → Prop) : Prop := ∀ (M : Addr → Prop) (H : Hp) (v : V), Wf W M H → Rep W M H v x → ∀ Q : VK, (∀ z d H', StOk W H' → Keep W H H' → Rep W M H' z d → P d → Q z H') → r v H Q
def RCD (W : Wd) (r : List V → Hp → VK → Prop) (xs : List D) (P : D → Prop) : Prop := ∀ (M : Addr → Prop) (H : Hp) (vs : List V), Wf W M H → Reps W M H vs xs → ∀ Q : VK, (∀ z d H', StOk W H' → Keep W H H' → Rep W M H' z d → P d → Q z H') → r vs H Q

section
variable {W : Wd} {δ : DS} {P : D → Prop} {ta tb te : TE} {t u : TT}
theorem ev_mono {P' : D → Prop} (h : EvD W te δ P) (k : ∀ d, P d → P' d) : EvD W te δ P' := fun M σ H p Q q => h M σ H p Q fun v d H' g kp r hP => q v d H' g kp r (k d hP)
theorem ev_var {i : Nat} {d : D} (h : δ[i]? = some (some d)) (hP : P d) : EvD W (tVar i) δ P := fun M σ H p Q q => by
  obtain ⟨v, h1, h2⟩ := p.sl.get i d h
  exact ⟨v, h1, q v d H p.wf.g (Keep.refl H) h2 hP⟩
theorem ev_c {v : V} {d : D} (hr : ∀ M H, Rep W M H v d) (hP : P d) : EvD W (tC v) δ P := fun M σ H p Q q => q v d H p.wf.g (Keep.refl H) (hr M H) hP
theorem ev_int {i : Int} (hP : P (.int i)) : EvD W (tC (.int i)) δ P := ev_c (fun _ _ => .int i) hP
theorem ev_bl {b : Bool} (hP : P (.bl b)) : EvD W (tC (.bl b)) δ P := ev_c (fun _ _ => .bl b) hP
theorem ev_non (hP : P .non) : EvD W (tC .non) δ P := ev_c (fun _ _ => .non) hP
theorem ev_str {x : Str} (hP : P (.str x)) : EvD W (tC (.str x)) δ P := ev_c (fun _ _ => .str x) hP
theorem ev_ty {n : String} (hP : P (.ty n)) : EvD W (tC (.ty n)) δ P := ev_c (fun _ _ => .ty n) hP
theorem ev_ref {a : Addr} (hP : P (.obj a)) : EvD W (tC (.ref a)) δ P := ev_c (fun _ _ => .obj a) hP
theorem ev_op {r : R2} (h : EvD W ta δ fun x => EvD W tb δ fun y => RD W r x y P) : EvD W (tOp r ta tb) δ P := fun M σ H p Q q =>
  h M σ H p _ fun v x H1 g1 k1 r1 h1 => h1 M σ H1 (p.next g1 k1) _ fun u y H2 g2 k2 r2 h2 =>
    h2 M H2 v u ((p.wf.next g1 k1).next g2 k2) (r1.keep (p.wf.next g1 k1) k2) r2 Q fun z d H3 g3 k3 r3 h3 => q z d H3 g3 ((k1.trans k2).trans k3) r3 h3
theorem ev_un {r : V → Hp → VK → Prop} (h : EvD W ta δ fun x => RUD W r x P) : EvD W (tUn r ta) δ P := fun M σ H p Q q =>
  h M σ H p _ fun v x H1 g1 k1 r1 h1 => h1 M H1 v (p.wf.next g1 k1) r1 Q fun z d H3 g3 k3 r3 h3 => q z d H3 g3 (k1.trans k3) r3 h3
theorem ev_chain {r r' : R2} {tc : TE} (h : EvD W ta δ fun x => EvD W tb δ fun y => RD W r x y fun z => ∃ k, z = .bl k ∧ (k = true → EvD W tc δ fun c => RD W r' y c P) ∧ (k = false → P (.bl false))) : EvD W (tChain r r' ta tb tc) δ P := fun M σ H p Q q =>
  h M σ H p _ fun v x H1 g1 k1 r1 h1 => h1 M σ H1 (p.next g1 k1) _ fun u y H2 g2 k2 r2 h2 =>
    h2 M H2 v u ((p.wf.next g1 k1).next g2 k2) (r1.keep (p.wf.next g1 k1) k2) r2 _ fun z d H3 g3 k3 r3 h3 => by
      obtain ⟨k, rfl, hT, hF⟩ := h3
      cases r3
      refine ⟨k, rfl, ?_⟩
      have p3 := ((p.next g1 k1).next g2 k2).next g3 k3
      cases k with
      | true =>
        rw [if_pos rfl]
        exact hT rfl M σ H3 p3 _ fun w c H4 g4 k4 r4 h4 => h4 M H4 u w (p3.wf.next g4 k4) ((r2.keep ((p.wf.next g1 k1).next g2 k2) k3).keep p3.wf k4) r4 Q fun z d H5 g5 k5 r5 h5 => q z d H5 g5 ((((k1.trans k2).trans k3).trans k4).trans k5) r5 h5
      | false =>
        rw [if_neg Bool.false_ne_true]
        exact q _ _ H3 g3 ((k1.trans k2).trans k3) (.bl false) (hF rfl)
theorem ev_andV (h : EvD W ta δ fun x => ∃ b, x = .bl b ∧ (b = true → EvD W tb δ P) ∧ (b = false → P (.bl false))) : EvD W (tAndV ta tb) δ P := fun M σ H p Q q =>
  h M σ H p _ fun v x H1 g1 k1 r1 h1 => by
    obtain ⟨b, rfl, hT, hF⟩ := h1
    cases r1
    refine ⟨b, rfl, ?_⟩
    cases b with
    | true =>
      rw [if_pos rfl]
      exact hT rfl M σ H1 (p.next g1 k1) Q fun z d H3 g3 k3 r3 h3 => q z d H3 g3 (k1.trans k3) r3 h3
    | false =>
      rw [if_neg Bool.false_ne_true]
      exact q _ _ H1 g1 k1 (.bl false) (hF rfl)
theorem ev_orV (h : EvD W ta δ fun x => ∃ b, x = .bl b ∧ (b = false → EvD W tb δ P) ∧ (b = true → P (.bl true))) : EvD W (tOrV ta tb) δ P := fun M σ H p Q q =>
  h M σ H p _ fun v x H1 g1 k1 r1 h1 => by
    obtain ⟨b, rfl, hF, hT⟩ := h1
    cases r1
    refine ⟨b, rfl, ?_⟩
    cases b with
    | false =>
      rw [if_neg Bool.false_ne_true]
      exact hF rfl M σ H1 (p.next g1 k1) Q fun z d H3 g3 k3 r3 h3 => q z d H3 g3 (k1.trans k3) r3 h3
    | true =>
      rw [if_pos rfl]
      exact q _ _ H1 g1 k1 (.bl true) (hT rfl)
theorem ev_notV (h : EvD W ta δ fun x => ∃ b, x = .bl b ∧ P (.bl (!b))) : EvD W (tNotV ta) δ P := fun M σ H p Q q =>
  h M σ H p _ fun v x H1 g1 k1 r1 h1 => by
    obtain ⟨b, rfl, hP⟩ := h1
    cases r1
    exact ⟨b, rfl, q _ _ H1 g1 k1 (.bl _) hP⟩
theorem ev_if (h : EvT W t δ fun b => (b = true → EvD W ta δ P) ∧ (b = false → EvD W tb δ P)) : EvD W (tIf t ta tb) δ P := fun M σ H p Q q =>
  h M σ H p _ fun b H1 g1 k1 h1 => by
    cases b with
    | true =>
      rw [if_pos rfl]
      exact h1.1 rfl M σ H1 (p.next g1 k1) Q fun z d H3 g3 k3 r3 h3 => q z d H3 g3 (k1.trans k3) r3 h3
    | false =>
      rw [if_neg Bool.false_ne_true]
      exact h1.2 rfl M σ H1 (p.next g1 k1) Q fun z d H3 g3 k3 r3 h3 => q z d H3 g3 (k1.trans k3) r3 h3
theorem et_B {P : Bool → Prop} (h : EvD W te δ fun x => ∃ b, x = .bl b ∧ P b) : EvT W (tB te) δ P := fun M σ H p Q q => h M σ H p _ fun v x H1 g1 k1 r1 h1 => by
  obtain ⟨b, rfl, hP⟩ := h1
  cases r1
  exact ⟨b, rfl, q b H1 g1 k1 hP⟩
theorem et_test {P : Bool → Prop} (h : EvD W te δ fun x => ∃ b, x = .bl b ∧ P b) : EvT W (tTest te) δ P := et_B h
theorem et_and {P : Bool → Prop} (h : EvT W t δ fun b => (b = true → EvT W u δ P) ∧ (b = false → P false)) : EvT W (tAnd t u) δ P := fun M σ H p Q q =>
  h M σ H p _ fun b H1 g1 k1 h1 => by
    cases b with
    | true =>
      rw [if_pos rfl]
      exact h1.1 rfl M σ H1 (p.next g1 k1) Q fun c H3 g3 k3 h3 => q c H3 g3 (k1.trans k3) h3
    | false =>
      rw [if_neg Bool.false_ne_true]
      exact q _ H1 g1 k1 (h1.2 rfl)
theorem et_or {P : Bool → Prop} (h : EvT W t δ fun b => (b = false → EvT W u δ P) ∧ (b = true → P true)) : EvT W (tOr t u) δ P := fun M σ H p Q q =>
  h M σ H p _ fun b H1 g1 k1 h1 => by
    cases b with
    | false =>
      rw [if_neg Bool.false_ne_true]
      exact h1.1 rfl M σ H1 (p.next g1 k1) Q fun c H3 g3 k3 h3 => q c H3 g3 (k1.trans k3) h3
    | true =>
      rw [if_pos rfl]
      exact q _ H1 g1 k1 (h1.2 rfl)
theorem et_not {P : Bool → Prop} (h : EvT W t δ fun b => P (!b)) : EvT W (tNot t) δ P := fun M σ H p Q q => h M σ H p _ fun b H1 g1 k1 h1 => q (!b) H1 g1 k1 h1
theorem ea_nil {P : List D → Prop} (h : P []) : EvA W tNil δ P := fun M σ H p Q q => q [] [] H p.wf.g (Keep.refl H) .nil h
theorem ea_cons {P : List D → Prop} {tr : TA} (h : EvD W te δ fun x => EvA W tr δ fun xs => P (x :: xs)) : EvA W (tCons te tr) δ P := fun M σ H p Q q =>
  h M σ H p _ fun v x H1 g1 k1 r1 h1 => h1 M σ H1 (p.next g1 k1) _ fun vs xs H2 g2 k2 r2 h2 => q (v :: vs) (x :: xs) H2 g2 (k1.trans k2) (.cons (r1.keep (p.wf.next g1 k1) k2) r2) h2
theorem ev_cb {r : List V → Hp → VK → Prop} {tr : TA} (h : EvA W tr δ fun xs => RCD W r xs P) : EvD W (tCB r tr) δ P := fun M σ H p Q q =>
  h M σ H p _ fun vs xs H1 g1 k1 r1 h1 => h1 M H1 vs (p.wf.next g1 k1) r1 Q fun z d H2 g2 k2 r2 h2 => q z d H2 g2 (k1.trans k2) r2 h2
theorem len_ok {n : Nat} (h : n ≤ 100000) : n ≤ sizeLine := Nat.le_trans h (by decide)
theorem newT {M : Addr → Prop} {H : Hp} {p : Addr} {vs : List V} {ds : List D} (w : Wf W M H) (r : Reps W M H vs ds) (hp : H p = none) : StOk W (upd H p (.tup vs)) ∧ Keep W H (upd H p (.tup vs)) ∧ Rep W M (upd H p (.tup vs)) (.ref p) (.tup ds) :=
  ⟨w.g.new hp, Keep.new hp, .tup (SqT.of upd_same) (r.keep w (Keep.new hp))⟩
theorem newL {M : Addr → Prop} {H : Hp} {p : Addr} {vs : List V} {ds : List D} (w : Wf W M H) (r : Reps W M H vs ds) (hp : H p = none) : StOk W (upd H p (.lst vs)) ∧ Keep W H (upd H p (.lst vs)) ∧ Rep W M (upd H p (.lst vs)) (.ref p) (.lst ds) :=
  ⟨w.g.new hp, Keep.new hp, .lst (fun m => by
    obtain ⟨o, ho⟩ := w.dom p m
    rw [hp] at ho
    cases ho) upd_same (r.keep w (Keep.new hp))⟩
theorem ev_tup {tr : TA} (h : EvA W tr δ fun xs => xs.length ≤ 100000 ∧ P (.tup xs)) : EvD W (tTup tr) δ P := fun M σ H p Q q =>
  h M σ H p _ fun vs xs H1 g1 k1 r1 ⟨hl, hP⟩ => ⟨len_ok (by rw [r1.length]; exact hl), fun a ha => by
    obtain ⟨x1, x2, x3⟩ := newT (p.wf.next g1 k1) r1 ha
    exact q _ _ _ x1 (k1.trans x2) x3 hP⟩
theorem ev_lst {tr : TA} (h : EvA W tr δ fun xs => xs.length ≤ 100000 ∧ P (.lst xs)) : EvD W (tLst tr) δ P := fun M σ H p Q q =>
  h M σ H p _ fun vs xs H1 g1 k1 r1 ⟨hl, hP⟩ => ⟨len_ok (by rw [r1.length]; exact hl), fun a ha => by
    obtain ⟨x1, x2, x3⟩ := newL (p.wf.next g1 k1) r1 ha
    exact q _ _ _ x1 (k1.trans x2) x3 hP⟩

/-! ### values -/
theorem rd_I0 {f : Int → Int → Int} {i j : Int} (h : P (.int (f i j))) : RD W (rI0 fun i j => .int (f i j)) (.int i) (.int j) P := fun M H v u w r1 r2 Q q => by
  cases r1
  cases r2
  exact ⟨i, j, rfl, rfl, q _ _ H w.g (Keep.refl H) (.int _) h⟩
theorem rd_I0b {f : Int → Int → Bool} {i j : Int} (h : P (.bl (f i j))) : RD W (rI0 fun i j => .bl (f i j)) (.int i) (.int j) P := fun M H v u w r1 r2 Q q => by
  cases r1
  cases r2
  exact ⟨i, j, rfl, rfl, q _ _ H w.g (Keep.refl H) (.bl _) h⟩
theorem rd_I {C : Int → Int → Prop} {f : Int → Int → Int} {i j : Int} (hc : C i j) (h : P (.int (f i j))) : RD W (rI C fun i j => .int (f i j)) (.int i) (.int j) P := fun M H v u w r1 r2 Q q => by
  cases r1
  cases r2
  exact ⟨i, j, rfl, rfl, hc, q _ _ H w.g (Keep.refl H) (.int _) h⟩
theorem ru_I {f : Int → Int} {i : Int} (h : P (.int (f i))) : RUD W (rU fun i => .int (f i)) (.int i) P := fun M H v w r1 Q q => by
  cases r1
  exact ⟨i, rfl, q _ _ H w.g (Keep.refl H) (.int _) h⟩
theorem atI_D {M : Addr → Prop} {H : Hp} {vs : List V} {ds : List D} {i : Int} {j : Nat} {d : D} (r : Reps W M H vs ds) (hi : i = (j : Int)) (h : ds[j]? = some d) : ∃ v, atI vs i = some v ∧ Rep W M H v d := by
  obtain ⟨v, h1, h2⟩ := r.get h
  exact ⟨v, at_of hi h1, h2⟩
/-- x[i], i from the left -/
theorem rd_ixT {i : Int} {j : Nat} {ds : List D} {d : D} (hi : i = (j : Int)) (h : ds[j]? = some d) (hP : P d) : RD W (rIx W.K) (.tup ds) (.int i) P := fun M H v u w r1 r2 Q q => by
  cases r1 with
  | tup hs hr =>
    cases r2
    obtain ⟨x, h1, h2⟩ := atI_D hr hi h
    exact .inr (.inl ⟨_, _, i, x, rfl, rfl, hs, h1, q x d H w.g (Keep.refl H) h2 hP⟩)
theorem rd_ixL {i : Int} {j : Nat} {ds : List D} {d : D} (hi : i = (j : Int)) (h : ds[j]? = some d) (hP : P d) : RD W (rIx W.K) (.lst ds) (.int i) P := fun M H v u w r1 r2 Q q => by
  cases r1 with
  | lst hn hs hr =>
    cases r2
    obtain ⟨x, h1, h2⟩ := atI_D hr hi h
    exact .inl ⟨_, _, i, x, rfl, rfl, .inl (.inl hs), h1, q x d H w.g (Keep.refl H) h2 hP⟩
def LenR (K : PySem.W.Frag) : List V → Hp → VK → Prop := fun xs H Q => ∃ x n, xs = [x] ∧ LenV K x H n ∧ Q (.int n) H
theorem rc_lenT {ds : List D} (h : P (.int (ds.length : Int))) : RCD W (fun xs H Q => ∃ x n, xs = [x] ∧ LenV W.K x H n ∧ Q (.int n) H) [.tup ds] P := fun M H vs w r Q q => by
  cases r with
  | cons r1 r2 =>
    cases r2
    cases r1 with
    | tup hs hr => exact ⟨_, _, rfl, .inr ⟨_, hs, rfl⟩, q _ _ H w.g (Keep.refl H) (.int _) (by rw [hr.length]; exact h)⟩
theorem rc_lenL {ds : List D} (h : P (.int (ds.length : Int))) : RCD W (fun xs H Q => ∃ x n, xs = [x] ∧ LenV W.K x H n ∧ Q (.int n) H) [.lst ds] P := fun M H vs w r Q q => by
  cases r with
  | cons r1 r2 =>
    cases r2
    cases r1 with
    | lst hn hs hr => exact ⟨_, _, rfl, .inl ⟨_, .inl (.inl hs), rfl⟩, q _ _ H w.g (Keep.refl H) (.int _) (by rw [hr.length]; exact h)⟩
theorem rc_abs {i : Int} (h : P (.int (if i < 0 then -i else i))) : RCD W (fun xs H Q => ∃ i, xs = [.int i] ∧ Q (.int (if i < 0 then -i else i)) H) [.int i] P := fun M H vs w r Q q => by
  cases r with
  | cons r1 r2 =>
    cases r2
    cases r1
    exact ⟨i, rfl, q _ _ H w.g (Keep.refl H) (.int _) h⟩
theorem rc_int1 {i : Int} (h : P (.int i)) : RCD W (fun xs H Q => (∃ i, xs = [.int i] ∧ Q (.int i) H) ∨ ∃ k, xs = [.bl k] ∧ Q (.int (if k then 1 else 0)) H) [.int i] P := fun M H vs w r Q q => by
  cases r with
  | cons r1 r2 =>
    cases r2
    cases r1
    exact .inl ⟨i, rfl, q _ _ H w.g (Keep.refl H) (.int _) h⟩
theorem rc_gcd {i j : Int} (h : P (.int ((Nat.gcd i.natAbs j.natAbs : Nat) : Int))) : RCD W rGcd [.int i, .int j] P := fun M H vs w r Q q => by
  cases r with
  | cons r1 r2 =>
    cases r2 with
    | cons r2 r3 =>
      cases r3
      cases r1
      cases r2
      exact ⟨i, j, rfl, q _ _ H w.g (Keep.refl H) (.int _) h⟩
theorem rc_tupL {ds : List D} (h : P (.tup ds)) : RCD W (fun xs H Q => ∃ p ys, xs = [.ref p] ∧ ((SqL W.K H p ys ∧ ∀ l, H l = none → Q (.ref l) (upd H l (.tup ys))) ∨ (SqT W.K H p ys ∧ Q (.ref p) H))) [.lst ds] P := fun M H vs w r Q q => by
  cases r with
  | cons r1 r2 =>
    cases r2
    cases r1 with
    | lst hn hs hr =>
      refine ⟨_, _, rfl, .inl ⟨.inl (.inl hs), fun l hl => ?_⟩⟩
      obtain ⟨x1, x2, x3⟩ := newT w hr hl
      exact q _ _ _ x1 x2 x3 h
theorem rc_listT {ds : List D} (h : P (.lst ds)) : RCD W (fun xs H Q => ∃ p ys, xs = [.ref p] ∧ (SqL W.K H p ys ∨ SqT W.K H p ys) ∧ ∀ l, H l = none → Q (.ref l) (upd H l (.lst ys))) [.tup ds] P := fun M H vs w r Q q => by
  cases r with
  | cons r1 r2 =>
    cases r2
    cases r1 with
    | tup hs hr =>
      refine ⟨_, _, rfl, .inr hs, fun l hl => ?_⟩
      obtain ⟨x1, x2, x3⟩ := newL w hr hl
      exact q _ _ _ x1 x2 x3 h
theorem reps_bls {M : Addr → Prop} {H : Hp} : ∀ {bs : List Bool} {vs : List V}, Reps W M H vs (bs.map D.bl) → vs = bs.map V.bl
  | [], _, .nil => rfl
  | b :: bs, _, .cons r t => by
    cases r
    rw [reps_bls t]
    rfl
theorem rc_all {bs : List Bool} (h : P (.bl (bs.all id))) : RCD W (rAll W.K) [.lst (bs.map D.bl)] P := fun M H vs w r Q q => by
  cases r with
  | cons r1 r2 =>
    cases r2
    cases r1 with
    | lst hn hs hr =>
      have e := reps_bls hr
      subst e
      exact ⟨_, bs, rfl, .inl (.inl hs), q _ _ H w.g (Keep.refl H) (.bl _) h⟩
/-! ### one of several rules -/
def rOr (r r' : R2) : R2 := fun x y H Q => r x y H Q ∨ r' x y H Q
theorem opOr {X : Cx} {f : Value → Value → Sem Value} {r r' : R2} (h : OpR X f r) (h' : OpR X f r') : OpR X f (rOr r r') := by
  intro pins s σ H x y v u Q I rx ry z
  rcases z with z | z
  · exact h pins s σ H x y v u Q I rx ry z
  · exact h' pins s σ H x y v u Q I rx ry z
theorem rd_orl {r r' : R2} {x y : D} (h : RD W r x y P) : RD W (rOr r r') x y P := fun M H v u w r1 r2 Q q => .inl (h M H v u w r1 r2 Q q)
theorem rd_orr {r r' : R2} {x y : D} (h : RD W r' x y P) : RD W (rOr r r') x y P := fun M H v u w r1 r2 Q q => .inr (h M H v u w r1 r2 Q q)
abbrev rAddI : R2 := rI0 fun i j => .int (i + j)
abbrev rAddS : R2 := rI (fun _ _ => False) fun i _ => .int i
theorem rd_catL {xs ys : List D} (hl : xs.length + ys.length ≤ 100000) (h : P (.lst (xs ++ ys))) : RD W rCat (.lst xs) (.lst ys) P := fun M H v u w r1 r2 Q q => by
  cases r1 with
  | lst n1 h1 q1 =>
    cases r2 with
    | lst n2 h2 q2 =>
      refine ⟨_, _, _, _, rfl, rfl, h1, h2, len_ok (by rw [q1.length, q2.length]; exact hl), fun p hp => ?_⟩
      obtain ⟨x1, x2, x3⟩ := newL w (q1.append q2) hp
      exact q _ _ _ x1 x2 x3 h
theorem rd_catT {xs ys : List D} (hl : xs.length + ys.length ≤ 100000) (h : P (.tup (xs ++ ys))) : RD W (rCatA W.K) (.tup xs) (.tup ys) P := fun M H v u w r1 r2 Q q => by
  cases r1 with
  | tup h1 q1 =>
    cases r2 with
    | tup h2 q2 =>
      refine ⟨_, _, _, _, rfl, rfl, h1, h2, len_ok (by rw [q1.length, q2.length]; exact hl), fun e => ?_, fun _ e => ?_, fun _ _ p hp => ?_⟩
      · subst e
        cases q1
        exact q _ (.tup ys) H w.g (Keep.refl H) (.tup h2 q2) h
      · subst e
        cases q2
        rw [List.append_nil] at h
        exact q _ (.tup xs) H w.g (Keep.refl H) (.tup h1 q1) h
      · obtain ⟨x1, x2, x3⟩ := newT w (q1.append q2) hp
        exact q _ _ _ x1 x2 x3 h
def rPlus (K : PySem.W.Frag) : R2 := rOr rAddI (rOr rCat (rCatA K))
theorem op_plus {X : Cx} : OpR X (binaryOp .Add) (rPlus X.K) := opOr op_add (opOr op_cat op_catA)
theorem rd_plusI {i j : Int} (h : P (.int (i + j))) : RD W (rPlus W.K) (.int i) (.int j) P := rd_orl (rd_I0 h)
theorem rd_plusL {xs ys : List D} (hl : xs.length + ys.length ≤ 100000) (h : P (.lst (xs ++ ys))) : RD W (rPlus W.K) (.lst xs) (.lst ys) P := rd_orr (rd_orl (rd_catL hl h))
theorem rd_plusT {xs ys : List D} (hl : xs.length + ys.length ≤ 100000) (h : P (.tup (xs ++ ys))) : RD W (rPlus W.K) (.tup xs) (.tup ys) P := rd_orr (rd_orr (rd_catT hl h))
/-- types by their names -/
def D.tyName : D → Option String
  | .non => some "NoneType"
  | .bl _ => some "bool"
  | .int _ => some "int"
  | .str _ => some "str"
  | .tup _ => some "tuple"
  | .lst _ => some "list"
  | .dct => some "dict"
  | .dic _ _ => some "dict"
  | _ => none
def D.isInt : D → Bool
  | .int _ => true
  | _ => false
theorem tyx {M : Addr → Prop} {H : Hp} {v : V} {d : D} {n : String} (r : Rep W M H v d) (h : d.tyName = some n) : TyX W.K H v (.type n) := by
  cases r with
  | non => cases h; exact .base .non
  | bl b => cases h; exact .base (.bl b)
  | int i => cases h; exact .base (.int i)
  | str x => cases h; exact .base (.str x)
  | ty m => cases h
  | tup hs hr =>
    cases h
    rcases hs with (hs | ⟨o, hs⟩) | ⟨o, its, m, e, c, _⟩
    · exact .base (.tup hs)
    · exact .fTuple hs
    · exact .kTuple e c
  | lst hn hs hr =>
    cases h
    exact .base (.lst hs)
  | st e => cases h
  | obj a => cases h
  | dct n e => cases h; exact .base (.dK e)
  | rng n e => cases h
  | ins n e _ _ => cases h
  | exc n e _ _ => cases h
  | xob0 => cases h
  | xob => cases h
  | dic n e _ _ => cases h; exact .base (.dK e)
theorem rc_isi {x : D} {n m : String} {b : Bool} (hx : x.tyName = some m) (hk : kitB m n = some b) (h : P (.bl b)) : RCD W (rIsi W.K) [x, .ty n] P := fun M H vs w r Q q => by
  cases r with
  | cons r1 r2 =>
    cases r2 with
    | cons r2 r3 =>
      cases r3
      cases r2
      exact ⟨_, _, _, _, b, rfl, .ty n, tyx r1 hx, kit_ty hk, q _ _ H w.g (Keep.refl H) (.bl b) h⟩
def D.isBl : D → Bool
  | .bl _ => true
  | _ => false
def D.isTup : D → Bool
  | .tup _ => true
  | _ => false
theorem rc_isiI {x : D} (hx : x.tyName.isSome = true) (h : P (.bl (x.isInt || x.isBl))) : RCD W (rIsi W.K) [x, .ty "int"] P := by
  cases x <;> first | exact rc_isi rfl (b := true) (by decide +kernel) h | exact rc_isi rfl (b := false) (by decide +kernel) h | cases hx
theorem rc_isiB {x : D} (hx : x.tyName.isSome = true) (h : P (.bl x.isBl)) : RCD W (rIsi W.K) [x, .ty "bool"] P := by
  cases x <;> first | exact rc_isi rfl (b := true) (by decide +kernel) h | exact rc_isi rfl (b := false) (by decide +kernel) h | cases hx
theorem rc_isiT {x : D} (hx : x.tyName.isSome = true) (h : P (.bl x.isTup)) : RCD W (rIsi W.K) [x, .ty "tuple"] P := by
  cases x <;> first | exact rc_isi rfl (b := true) (by decide +kernel) h | exact rc_isi rfl (b := false) (by decide +kernel) h | cases hx

/-! ### what is known of a flag -/
theorem exb_t {c : Bool} {A B : Prop} (hc : c = true) (h : A) : ∃ b, D.bl c = D.bl b ∧ (b = true → A) ∧ (b = false → B) := ⟨c, rfl, fun _ => h, fun z => by rw [hc] at z; cases z⟩
theorem exb_f {c : Bool} {A B : Prop} (hc : c = false) (h : B) : ∃ b, D.bl c = D.bl b ∧ (b = true → A) ∧ (b = false → B) := ⟨c, rfl, fun z => (by rw [hc] at z; cases z), fun _ => h⟩
theorem exo_f {c : Bool} {A B : Prop} (hc : c = false) (h : A) : ∃ b, D.bl c = D.bl b ∧ (b = false → A) ∧ (b = true → B) := ⟨c, rfl, fun _ => h, fun z => by rw [hc] at z; cases z⟩
theorem exo_t {c : Bool} {A B : Prop} (hc : c = true) (h : B) : ∃ b, D.bl c = D.bl b ∧ (b = false → A) ∧ (b = true → B) := ⟨c, rfl, fun z => (by rw [hc] at z; cases z), fun _ => h⟩
theorem bt {c : Bool} {A B : Prop} (hc : c = true) (h : A) : (c = true → A) ∧ (c = false → B) := ⟨fun _ => h, fun z => by rw [hc] at z; cases z⟩
theorem bf {c : Bool} {A B : Prop} (hc : c = false) (h : B) : (c = true → A) ∧ (c = false → B) := ⟨fun z => (by rw [hc] at z; cases z), fun _ => h⟩
theorem bof {c : Bool} {A B : Prop} (hc : c = false) (h : A) : (c = false → A) ∧ (c = true → B) := ⟨fun _ => h, fun z => by rw [hc] at z; cases z⟩
theorem bot {c : Bool} {A B : Prop} (hc : c = true) (h : B) : (c = false → A) ∧ (c = true → B) := ⟨fun z => (by rw [hc] at z; cases z), fun _ => h⟩
theorem exb {c : Bool} {A : Bool → Prop} (h : A c) : ∃ b, D.bl c = D.bl b ∧ A b := ⟨c, rfl, h⟩
/-- a flag by its two ways, the first asked -/
theorem exb2 {c : Bool} {A B : Prop} (h1 : c = true → A) (h2 : c = false → B) : ∃ b, D.bl c = D.bl b ∧ (b = true → A) ∧ (b = false → B) := ⟨c, rfl, h1, h2⟩

theorem rd_notB {a b : Bool} (h : P (.bl (!decide (a = b)))) : RD W rNotB (.bl a) (.bl b) P := fun M H v u w r1 r2 Q q => by
  cases r1
  cases r2
  exact ⟨a, b, rfl, rfl, q _ _ H w.g (Keep.refl H) (.bl _) h⟩
/-! ### == -/
mutual
def D.py : D → PyData
  | .non => .none
  | .bl b => .bool b
  | .int i => .int i
  | .str x => .str x
  | .tup xs => .tuple (D.pys xs)
  | .lst xs => .list (D.pys xs)
  | _ => .dict []
def D.pys : List D → List PyData
  | [] => []
  | x :: xs => x.py :: D.pys xs
end
mutual
def D.plain : D → Bool
  | .non | .bl _ | .int _ | .str _ => true
  | .tup xs | .lst xs => D.plains xs
  | _ => false
def D.plains : List D → Bool
  | [] => true
  | x :: xs => x.plain && D.plains xs
end
mutual
theorem dp_of {M : Addr → Prop} {H : Hp} : ∀ {v : V} {d : D}, Rep W M H v d → d.plain = true → Dp W.K H v d.py
  | _, _, .non, _ => by unfold D.py; exact .non
  | _, _, .bl b, _ => by unfold D.py; exact .bl b
  | _, _, .int i, _ => by unfold D.py; exact .int i
  | _, _, .str x, _ => by unfold D.py; exact .str x
  | _, _, .ty n, h => by simp [D.plain] at h
  | _, _, .tup hs r, h => by
    unfold D.py
    exact .tup hs (dps_of r (by simpa [D.plain] using h))
  | _, _, .lst hn hs r, h => by
    unfold D.py
    exact .lst (.inl (.inl hs)) (dps_of r (by simpa [D.plain] using h))
  | _, _, .st e, h => by simp [D.plain] at h
  | _, _, .obj a, h => by simp [D.plain] at h
  | _, _, .dct _ _, h => by simp [D.plain] at h
  | _, _, .rng _ _, h => by simp [D.plain] at h
  | _, _, .ins _ _ _ _, h => by simp [D.plain] at h
  | _, _, .exc _ _ _ _, h => by simp [D.plain] at h
  | _, _, .xob0 _ _, h => by simp [D.plain] at h
  | _, _, .xob _ _ _ _ _ _, h => by simp [D.plain] at h
  | _, _, .dic _ _ _ _, h => by simp [D.plain] at h
theorem dps_of {M : Addr → Prop} {H : Hp} : ∀ {vs : List V} {ds : List D}, Reps W M H vs ds → D.plains ds = true → DpAll W.K H vs (D.pys ds)
  | _, _, .nil, _ => by unfold D.pys; exact .nil
  | _, _, .cons r t, h => by
    simp only [D.plains, Bool.and_eq_true] at h
    unfold D.pys
    exact .cons (dp_of r h.1) (dps_of t h.2)
end
/-- what == tells of two data -/
def D.eqv (x y : D) : Bool := PyData.eqv x.py y.py
def D.fine (x : D) : Bool := x.plain && SeqAt.shaped x.py
theorem rd_eqD {x y : D} (hx : x.fine = true) (hy : y.fine = true) (h : P (.bl (x.eqv y))) : RD W (rEqD W.K) x y P := fun M H v u w r1 r2 Q q => by
  have h1 := (Bool.and_eq_true_iff.mp hx)
  have h2 := (Bool.and_eq_true_iff.mp hy)
  exact ⟨_, _, dp_of r1 h1.1, dp_of r2 h2.1, h1.2, h2.2, q _ _ H w.g (Keep.refl H) (.bl _) h⟩
theorem rd_neD {x y : D} (hx : x.fine = true) (hy : y.fine = true) (h : P (.bl (!x.eqv y))) : RD W (rNeD W.K) x y P := fun M H v u w r1 r2 Q q => by
  have h1 := (Bool.and_eq_true_iff.mp hx)
  have h2 := (Bool.and_eq_true_iff.mp hy)
  exact ⟨_, _, dp_of r1 h1.1, dp_of r2 h2.1, h1.2, h2.2, q _ _ H w.g (Keep.refl H) (.bl _) h⟩
theorem eqvI (i j : Int) : D.eqv (.int i) (.int j) = decide (i = j) := by
  show PyData.eqv (D.py (.int i)) (D.py (.int j)) = _
  simp only [D.py, PyData.eqv]
  rfl
theorem fineI (i : Int) : D.fine (.int i) = true := by
  simp [D.fine, D.plain, D.py, SeqAt.shaped, PyData.canLay0, PyData.depth]
theorem rd_eqI {i j : Int} (h : P (.bl (decide (i = j)))) : RD W (rEqD W.K) (.int i) (.int j) P := rd_eqD (fineI i) (fineI j) (by rw [eqvI]; exact h)
theorem rd_neI {i j : Int} (h : P (.bl (!decide (i = j)))) : RD W (rNeD W.K) (.int i) (.int j) P := rd_neD (fineI i) (fineI j) (by rw [eqvI]; exact h)
end
end PD
namespace PD
open PySem PySem.Spec PyProof.Rows L2
open RZ (iZipA ItzT)

/-! ### statements -/
structure Ent (W : Wd) (M0 : Addr → Prop) (H0 : Hp) (M : Addr → Prop) (H : Hp) : Prop where
  k : Keep W H0 H
  m : ∀ a, M0 a → M a
  new : ∀ a, M a → ¬ M0 a → H0 a = none
/-- an exception by its class and what its own dict holds -/
abbrev XV := Addr × List (Str × D)
def XRep (W : Wd) (M : Addr → Prop) (H : Hp) (cls : Value) (d : Option Addr) (x : XV) : Prop := cls = .ref x.1 ∧ match d with
  | none => x.2 = []
  | some dx => ∃ fs : List (Str × V), ¬ M dx ∧ H dx = some (.xd fs) ∧ fs.map (·.1) = x.2.map (·.1) ∧ Reps W M H (fs.map (·.2)) (x.2.map (·.2))
abbrev WF : WX := fun _ _ _ _ => False
abbrev XN : XV → DS → Prop := fun _ _ => False
structure Outs (W : Wd) (Wx : WX) (M0 : Addr → Prop) (H0 : Hp) (N : DS → Prop) (R : D → Prop) (B C : DS → Prop) (X : XV → DS → Prop) (E : Ends) : Prop where
  nx : ∀ M σ δ H, Pre W M δ σ H → Ent W M0 H0 M H → N δ → E.nx σ H
  rt : ∀ v d H, StOk W H → Keep W H0 H → Rep W M0 H v d → R d → E.rt v H
  bk : ∀ M σ δ H, Pre W M δ σ H → Ent W M0 H0 M H → B δ → E.bk σ H
  ct : ∀ M σ δ H, Pre W M δ σ H → Ent W M0 H0 M H → C δ → E.ct σ H
  xw : ∀ M σ δ H cls d x, Pre W M δ σ H → Ent W M0 H0 M H → XRep W M H cls d x → X x δ → Wx cls d σ H
def SX (W : Wd) (Wx : WX) (ts : TS) (δ : DS) (N : DS → Prop) (R : D → Prop) (B C : DS → Prop) (X : XV → DS → Prop) : Prop :=
  ∀ (M0 : Addr → Prop) (H0 : Hp) (M : Addr → Prop) (σ : L2.St) (H : Hp) (E : Ends), Pre W M δ σ H → Ent W M0 H0 M H → Outs W Wx M0 H0 N R B C X E → ts E σ H
abbrev SD (W : Wd) (ts : TS) (δ : DS) (N : DS → Prop) (R : D → Prop) (B C : DS → Prop) : Prop := SX W WF ts δ N R B C XN
theorem Ent.next {W : Wd} {M0 M : Addr → Prop} {H0 H H' : Hp} (e : Ent W M0 H0 M H) (k : Keep W H H') : Ent W M0 H0 M H' := ⟨e.k.trans k, e.m, e.new⟩
section
variable {W : Wd} {Wx : WX} {X : XV → DS → Prop} {δ : DS} {N : DS → Prop} {R : D → Prop} {B C : DS → Prop} {te tl : TE} {t : TT} {ts tu : TS} {g : TG}
theorem XRep.anti {W : Wd} {M M' : Addr → Prop} {H : Hp} {cls : Value} {d : Option Addr} {x : XV} (m : ∀ a, M' a → M a) (h : XRep W M H cls d x) : XRep W M' H cls d x := by
  obtain ⟨h1, h2⟩ := h
  refine ⟨h1, ?_⟩
  cases d with
  | none => exact h2
  | some dx =>
    obtain ⟨fs, h6, h3, h5, h4⟩ := h2
    exact ⟨fs, fun z => h6 (m _ z), h3, h5, h4.anti m⟩
theorem sd_seq (h : SX W Wx ts δ (fun δ' => SX W Wx tu δ' N R B C X) R B C X) : SX W Wx (tSeq ts tu) δ N R B C X := fun M0 H0 M σ H E p e o =>
  h M0 H0 M σ H { E with nx := tu E } p e ⟨fun M' σ' δ' H' p' e' hN => hN M0 H0 M' σ' H' E p' e' o, o.rt, o.bk, o.ct, o.xw⟩
theorem sd_next (h : N δ) : SX W Wx tNext δ N R B C X := fun M0 H0 M σ H E p e o => o.nx M σ δ H p e h
theorem sd_asg {i : Nat} (h : EvD W te δ fun d => N (δ.set i (some d))) : SX W Wx (tAsg te (gName i)) δ N R B C X := fun M0 H0 M σ H E p e o =>
  h M σ H p _ fun v d H1 g1 k1 r1 h1 => o.nx M _ _ H1 ⟨p.wf.next g1 k1, (p.next g1 k1).sl.set i r1⟩ (e.next k1) h1
theorem sd_ret (h : EvD W te δ R) : SX W Wx (tRet te) δ N R B C X := fun M0 H0 M σ H E p e o =>
  h M σ H p _ fun v d H1 g1 k1 r1 h1 => o.rt v d H1 g1 (e.k.trans k1) (r1.anti e.m) h1
theorem sd_retN (h : R .non) : SX W Wx tRetN δ N R B C X := fun M0 H0 M σ H E p e o => o.rt .non .non H p.wf.g e.k .non h
theorem sd_drop (h : EvD W te δ fun _ => N δ) : SX W Wx (tDrop te) δ N R B C X := fun M0 H0 M σ H E p e o =>
  h M σ H p _ fun v d H1 g1 k1 r1 h1 => o.nx M σ δ H1 (p.next g1 k1) (e.next k1) h1
theorem sd_if (h : EvT W t δ fun b => (b = true → SX W Wx ts δ N R B C X) ∧ (b = false → SX W Wx tu δ N R B C X)) : SX W Wx (tIfS t ts tu) δ N R B C X := fun M0 H0 M σ H E p e o =>
  h M σ H p _ fun b H1 g1 k1 h1 => by
    cases b with
    | true =>
      rw [if_pos rfl]
      exact h1.1 rfl M0 H0 M σ H1 E (p.next g1 k1) (e.next k1) o
    | false =>
      rw [if_neg Bool.false_ne_true]
      exact h1.2 rfl M0 H0 M σ H1 E (p.next g1 k1) (e.next k1) o
theorem sd_mono {N' : DS → Prop} {R' : D → Prop} (h : SX W Wx ts δ N R B C X) (hN : ∀ δ', N δ' → N' δ') (hR : ∀ d, R d → R' d) : SX W Wx ts δ N' R' B C X := fun M0 H0 M σ H E p e o =>
  h M0 H0 M σ H E p e ⟨fun M' σ' δ' H' p' e' x => o.nx M' σ' δ' H' p' e' (hN _ x), fun v d H' g k r x => o.rt v d H' g k r (hR _ x), o.bk, o.ct, o.xw⟩
/-- a word between a statement and what follows it -/
theorem sd_cut (Mid : DS → Prop) (h : SX W Wx ts δ Mid R B C X) (k : ∀ δ', Mid δ' → SX W Wx tu δ' N R B C X) : SX W Wx (tSeq ts tu) δ N R B C X := sd_seq (sd_mono h k fun _ x => x)
/-- a, b = x, y -/
theorem sd_par {i j : Nat} {ta : TA} (h : EvA W ta δ fun xs => ∃ x y, xs = [x, y] ∧ N ((δ.set i (some x)).set j (some y))) : SX W Wx (tPar i j ta) δ N R B C X := fun M0 H0 M σ H E p e o =>
  h M σ H p _ fun vs xs H1 g1 k1 r1 h1 => by
    obtain ⟨x, y, rfl, hN⟩ := h1
    cases r1 with
    | cons r1 r2 =>
      cases r2 with
      | cons r2 r3 =>
        cases r3
        exact ⟨_, _, rfl, o.nx M _ _ H1 ⟨p.wf.next g1 k1, ((p.next g1 k1).sl.set i r1).set j r2⟩ (e.next k1) hN⟩
theorem sd_aug {i : Nat} {f : Int → Int → Int} {a : Int} (hi : δ[i]? = some (some (.int a))) (h : EvD W te δ fun d => ∃ b, d = .int b ∧ N (δ.set i (some (.int (f a b))))) : SX W Wx (tAug i te (ipI f)) δ N R B C X := fun M0 H0 M σ H E p e o => by
  obtain ⟨v, h1, h2⟩ := p.sl.get i _ hi
  cases h2
  refine ⟨_, h1, h M σ H p _ fun v d H1 g1 k1 r1 q => ?_⟩
  obtain ⟨b, rfl, hN⟩ := q
  cases r1
  exact ⟨a, b, rfl, rfl, o.nx M _ _ H1 ⟨p.wf.next g1 k1, (p.next g1 k1).sl.set i (.int _)⟩ (e.next k1) hN⟩

/-! ### targets -/
def GD (W : Wd) (g : TG) (d : D) (δ : DS) (js : List Nat) (Nx : DS → Prop) : Prop := ∀ (M : Addr → Prop) (σ : L2.St) (H : Hp) (v : V), Pre W M δ σ H → Rep W M H v d → ∀ Q : L2.St → Hp → Prop,
  (∀ σ' δ', Pre W M δ' σ' H → Nx δ' → (∀ vs : List Nat, (∀ j ∈ js, j ∈ vs) → wipe σ' vs = wipe σ vs) → Q σ' H) → g v σ H Q
theorem wipe_get (σ : L2.St) : ∀ (vs : List Nat) (i : Nat), (wipe σ vs)[i]? = if i ∈ vs ∧ i < σ.length then some none else σ[i]?
  | [], i => by
    unfold wipe
    rw [if_neg (by simp)]
  | v :: vs, i => by
    unfold wipe
    rw [List.getElem?_set, wipe_length, wipe_get σ vs i]
    by_cases hv : v = i
    · subst hv
      by_cases hl : v < σ.length
      · rw [if_pos rfl, if_pos hl, if_pos ⟨by simp, hl⟩]
      · rw [if_pos rfl, if_neg hl, if_neg (fun z => hl z.2)]
        exact (List.getElem?_eq_none (by omega)).symm
    · rw [if_neg hv]
      have e : (i ∈ v :: vs ∧ i < σ.length) ↔ (i ∈ vs ∧ i < σ.length) := by
        constructor
        · rintro ⟨h1, h2⟩
          rcases List.mem_cons.mp h1 with z | z
          · exact absurd z.symm hv
          · exact ⟨z, h2⟩
        · rintro ⟨h1, h2⟩
          exact ⟨List.mem_cons_of_mem _ h1, h2⟩
      by_cases hc : i ∈ vs ∧ i < σ.length
      · rw [if_pos hc, if_pos (e.mpr hc)]
      · rw [if_neg hc, if_neg (fun z => hc (e.mp z))]
theorem wipe_set {σ : L2.St} {j : Nat} {x : Option V} {vs : List Nat} (h : j ∈ vs) : wipe (σ.set j x) vs = wipe σ vs := by
  apply List.ext_getElem?
  intro i
  rw [wipe_get, wipe_get, List.length_set]
  by_cases hc : i ∈ vs ∧ i < σ.length
  · rw [if_pos hc, if_pos hc]
  · rw [if_neg hc, if_neg hc, List.getElem?_set]
    by_cases hj : j = i
    · subst hj
      have hl : ¬ j < σ.length := fun z => hc ⟨h, z⟩
      rw [if_pos rfl, if_neg hl]
      exact (List.getElem?_eq_none (by omega)).symm
    · rw [if_neg hj]
theorem wipe_wipe (σ : L2.St) (vs : List Nat) : wipe (wipe σ vs) vs = wipe σ vs := by
  apply List.ext_getElem?
  intro i
  rw [wipe_get, wipe_get, wipe_length]
  by_cases hc : i ∈ vs ∧ i < σ.length
  · rw [if_pos hc, if_pos hc]
  · rw [if_neg hc, if_neg hc]
theorem gd_name {j : Nat} {d : D} {Nx : DS → Prop} (h : Nx (δ.set j (some d))) : GD W (gName j) d δ [j] Nx := fun M σ H v p r Q q =>
  q _ _ ⟨p.wf, p.sl.set j r⟩ h fun vs hv => wipe_set (hv j (List.mem_singleton.mpr rfl))
theorem gd_tup2 {g1 g2 : TG} {x y : D} {j1 j2 : List Nat} {Nx : DS → Prop} (h : GD W g1 x δ j1 fun δ1 => GD W g2 y δ1 j2 Nx) : GD W (gTup W.K 2 (gCons g1 (gCons g2 gNil))) (.tup [x, y]) δ (j1 ++ j2) Nx := fun M σ H v p r Q q => by
  cases r with
  | @tup a vs ds hs hr =>
    cases hr with
    | cons r1 r2 =>
      cases r2 with
      | cons r2 r3 =>
        cases r3
        refine ⟨a, _, rfl, hs, rfl, _, _, rfl, h M σ H _ p r1 _ fun σ1 δ1 p1 h1 w1 => ⟨_, _, rfl, h1 M σ1 H _ p1 r2 _ fun σ2 δ2 p2 h2 w2 => ⟨rfl, q σ2 δ2 p2 h2 fun vs hv => ?_⟩⟩⟩
        rw [w2 vs fun j hj => hv j (List.mem_append_right _ hj), w1 vs fun j hj => hv j (List.mem_append_left _ hj)]
/-- a target that is a tuple: a, b = e -/
theorem sd_asgG {js : List Nat} (h : EvD W te δ fun d => GD W g d δ js N) : SX W Wx (tAsg te g) δ N R B C X := fun M0 H0 M σ H E p e o =>
  h M σ H p _ fun v d H1 g1 k1 r1 h1 => h1 M σ H1 v (p.next g1 k1) r1 _ fun σ' δ' p' hN _ => o.nx M σ' δ' H1 p' (e.next k1) hN

/-! ### loops -/
theorem sd_while {tc : TT} (Inv : DS → Prop) (μ : DS → Nat) (h0 : Inv δ) (h : ∀ δ', Inv δ' → EvT W tc δ' fun b => (b = true → SX W Wx ts δ' (fun δ2 => Inv δ2 ∧ μ δ2 < μ δ') R N (fun δ2 => Inv δ2 ∧ μ δ2 < μ δ') X) ∧ (b = false → N δ')) : SX W Wx (tWhile tc ts) δ N R B C X := fun M0 H0 M σ H E p e o => by
  refine ⟨fun m σ' H' => ∃ M' δ', Pre W M' δ' σ' H' ∧ Ent W M0 H0 M' H' ∧ Inv δ' ∧ m = μ δ', ⟨_, M, δ, p, e, h0, rfl⟩, ?_⟩
  rintro m σ' H' ⟨M', δ', p', e', i', rfl⟩
  refine h δ' i' M' σ' H' p' _ fun b H1 g1 k1 h1 => ?_
  cases b with
  | true =>
    rw [if_pos rfl]
    refine ⟨fun σ2 H2 => ∃ M2 δ2, Pre W M2 δ2 σ2 H2 ∧ Ent W M0 H0 M2 H2 ∧ Inv δ2 ∧ μ δ2 < μ δ', ?_, ?_⟩
    · rintro σ2 H2 ⟨M2, δ2, p2, e2, i2, l2⟩
      exact ⟨_, l2, M2, δ2, p2, e2, i2, rfl⟩
    · exact h1.1 rfl M0 H0 M' σ' H1 _ (p'.next g1 k1) (e'.next k1) ⟨fun M2 σ2 δ2 H2 p2 e2 x => ⟨M2, δ2, p2, e2, x.1, x.2⟩, o.rt, o.nx, fun M2 σ2 δ2 H2 p2 e2 x => ⟨M2, δ2, p2, e2, x.1, x.2⟩, o.xw⟩
  | false =>
    rw [if_neg Bool.false_ne_true]
    exact o.nx M' σ' δ' H1 (p'.next g1 k1) (e'.next k1) (h1.2 rfl)
/-- the iterator J gives the items ds, one a turn, whatever is laid meanwhile -/
def Src (W : Wd) (M : Addr → Prop) (J : It) (H1 : Hp) (ds : List D) : Prop := ∀ (M' : Addr → Prop), (∀ a, M a → M' a) → (∀ a, M' a → ¬ M a → H1 a = none) → ∀ (i : Nat) (H2 : Hp), KeepM W M H1 H2 → StOk W H2 →
  (i = ds.length → J.stop i H2) ∧ ∀ d, ds[i]? = some d → J.go i H2 ∧ ∀ x H3, J.yld i H2 x H3 → StOk W H3 ∧ Keep W H2 H3 ∧ Rep W M' H3 x d
def IterD (W : Wd) (wi : TI) (δ : DS) (P : List D → Prop) : Prop := ∀ (M : Addr → Prop) (σ : L2.St) (H : Hp), Pre W M δ σ H → ∀ R : It → Hp → Prop,
  (∀ (J : It) (H1 : Hp) (ds : List D), StOk W H1 → Keep W H H1 → P ds → Src W M J H1 ds → R J H1) → wi σ H R
theorem sqT_inj {K : PySem.W.Frag} {H : Hp} {a : Addr} {xs ys : List V} (hH : ∃ o, H a = some o) (h : SqT K H a xs) (h' : SqT K H a ys) : Rd H a (.tup xs) → Rd H a (.tup ys) → xs = ys := fun r q => by
  rcases r with r | ⟨o, r⟩ <;> rcases q with q | ⟨o', q⟩
  · rw [r] at q; cases q; rfl
  · rw [r] at q; cases q
  · rw [r] at q; cases q
  · rw [r] at q; cases q; rfl
theorem src_tup {M : Addr → Prop} {H1 : Hp} {a : Addr} {vs : List V} {ds : List D} (w : Wf W M H1) (hs : SqT W.K H1 a vs) (hr : Reps W M H1 vs ds) : Src W M (Itt W.K a) H1 ds := fun M' hm hn i H2 k g => by
  have wg : Wg W M' H1 := ⟨w.g, fun b e => hm b (w.sm b e)⟩
  have hs2 := sqT_keepM wg (k.mono hm) hs
  have hr2 : Reps W M' H2 vs ds := (hr.more hn).keepM wg (k.mono hm)
  refine ⟨fun hl => ⟨vs, hs2, by rw [hr2.length]; exact Nat.le_of_eq hl.symm⟩, fun d hd => ?_⟩
  obtain ⟨v, hv, rv⟩ := hr2.get hd
  refine ⟨⟨vs, v, hs2, hv⟩, fun x H3 y => ?_⟩
  obtain ⟨rfl, y2⟩ := y
  have e : vs[i]? = some x := y2 vs hs2
  rw [hv] at e
  cases e
  exact ⟨g, Keep.refl _, rv⟩
theorem src_lst {M : Addr → Prop} {H1 : Hp} {a : Addr} {vs : List V} {ds : List D} (w : Wf W M H1) (na : ¬ M a) (hs : H1 a = some (.lst vs)) (hr : Reps W M H1 vs ds) : Src W M (Itl W.K a) H1 ds := fun M' hm hn i H2 k g => by
  have wg : Wg W M' H1 := ⟨w.g, fun b e => hm b (w.sm b e)⟩
  have na' : ¬ M' a := fun z => by
    rw [hn a z na] at hs; cases hs
  have hs2 : SqL W.K H2 a vs := .inl (.inl (rdL_keepM wg (k.mono hm) na' hs))
  have hr2 : Reps W M' H2 vs ds := (hr.more hn).keepM wg (k.mono hm)
  refine ⟨fun hl => ⟨vs, hs2, by rw [hr2.length]; exact Nat.le_of_eq hl.symm⟩, fun d hd => ?_⟩
  obtain ⟨v, hv, rv⟩ := hr2.get hd
  refine ⟨⟨vs, v, hs2, hv⟩, fun x H3 y => ?_⟩
  obtain ⟨rfl, y2⟩ := y
  have e : vs[i]? = some x := y2 vs hs2
  rw [hv] at e
  cases e
  exact ⟨g, Keep.refl _, rv⟩
theorem it_tup {P : List D → Prop} (h : EvD W tl δ fun x => ∃ ds, x = .tup ds ∧ P ds) : IterD W (iTup W.K tl) δ P := fun M σ H p R q => h M σ H p _ fun v d H1 g1 k1 r1 h1 => by
  obtain ⟨ds, rfl, hP⟩ := h1
  cases r1 with
  | tup hs hr => exact ⟨_, rfl, ⟨_, hs⟩, q _ H1 ds g1 k1 hP (src_tup (p.wf.next g1 k1) hs hr)⟩
theorem it_lst {P : List D → Prop} (h : EvD W tl δ fun x => ∃ ds, x = .lst ds ∧ P ds) : IterD W (iList W.K tl) δ P := fun M σ H p R q => h M σ H p _ fun v d H1 g1 k1 r1 h1 => by
  obtain ⟨ds, rfl, hP⟩ := h1
  cases r1 with
  | lst hn hs hr => exact ⟨_, rfl, ⟨_, .inl (.inl hs)⟩, q _ H1 ds g1 k1 hP (src_lst (p.wf.next g1 k1) hn hs hr)⟩
def iSeq (K : PySem.W.Frag) (tl : TE) : TI := fun σ H R => iList K tl σ H R ∨ iTup K tl σ H R
theorem pi_seq {X : Cx} {tg iter : Expr} {tl : TE} (h1 : PI X tg iter (iList X.K tl)) (h2 : PI X tg iter (iTup X.K tl)) : PI X tg iter (iSeq X.K tl) := ⟨fun pins s σ H R I h => by
  rcases h with h | h
  · exact h1.run pins s σ H R I h
  · exact h2.run pins s σ H R I h⟩
theorem it_seqT {P : List D → Prop} (h : EvD W tl δ fun x => ∃ ds, x = .tup ds ∧ P ds) : IterD W (iSeq W.K tl) δ P := fun M σ H p R q => .inr (it_tup h M σ H p R q)
theorem it_seqL {P : List D → Prop} (h : EvD W tl δ fun x => ∃ ds, x = .lst ds ∧ P ds) : IterD W (iSeq W.K tl) δ P := fun M σ H p R q => .inl (it_lst h M σ H p R q)
def rngD (lo : Int) (n : Nat) : List D := (List.range n).map fun (k : Nat) => .int (lo + (k : Int))
theorem rngD_length (lo : Int) (n : Nat) : (rngD lo n).length = n := by simp [rngD]
theorem rngD_get {lo : Int} {n i : Nat} {d : D} (h : (rngD lo n)[i]? = some d) : i < n ∧ d = .int (lo + (i : Int)) := by
  have hl : i < n := by
    have := (List.getElem?_eq_some_iff.mp h).1
    rw [rngD_length] at this
    exact this
  refine ⟨hl, ?_⟩
  unfold rngD at h
  rw [List.getElem?_map, List.getElem?_range hl] at h
  exact (Option.some.inj h).symm
theorem src_rng {M : Addr → Prop} {H1 : Hp} (lo : Int) (n : Nat) : Src W M (Itr lo n) H1 (rngD lo n) := fun M' hm hn i H2 k g => by
  refine ⟨fun hl => by rw [rngD_length] at hl; exact Nat.le_of_eq hl.symm, fun d hd => ?_⟩
  obtain ⟨hl, rfl⟩ := rngD_get hd
  refine ⟨hl, fun x H3 y => ?_⟩
  obtain ⟨rfl, rfl⟩ := y
  exact ⟨g, Keep.refl _, .int _⟩
theorem it_rng1 {P : List D → Prop} {ta : TA} (h : EvA W ta δ fun xs => ∃ n : Int, xs = [.int n] ∧ n < 2 ^ 62 ∧ -(2 ^ 62) ≤ n ∧ P (rngD 0 n.toNat)) : IterD W (iRng1 ta) δ P := fun M σ H p R q => h M σ H p _ fun vs ds H1 g1 k1 r1 h1 => by
  obtain ⟨n, rfl, h2, h3, hP⟩ := h1
  cases r1 with
  | cons r1 r2 =>
    cases r2
    cases r1
    exact ⟨n, rfl, h3, h2, q _ H1 _ g1 k1 hP (src_rng 0 _)⟩
theorem it_rng2 {P : List D → Prop} {ta : TA} (h : EvA W ta δ fun xs => ∃ m n : Int, xs = [.int m, .int n] ∧ (-(2 ^ 62) ≤ m ∧ m < 2 ^ 62 ∧ -(2 ^ 62) ≤ n ∧ n < 2 ^ 62) ∧ P (rngD m (n - m).toNat)) : IterD W (iRng2 ta) δ P := fun M σ H p R q => h M σ H p _ fun vs ds H1 g1 k1 r1 h1 => by
  obtain ⟨m, n, rfl, h2, hP⟩ := h1
  cases r1 with
  | cons r1 r2 =>
    cases r2 with
    | cons r2 r3 =>
      cases r3
      cases r1
      cases r2
      exact ⟨m, n, rfl, h2, q _ H1 _ g1 k1 hP (src_rng m _)⟩
def zipD (ds es : List D) : List D := List.zipWith (fun x y => .tup [x, y]) ds es
theorem zipD_get {ds es : List D} {i : Nat} {d : D} (h : (zipD ds es)[i]? = some d) : ∃ x y, ds[i]? = some x ∧ es[i]? = some y ∧ d = .tup [x, y] := by
  unfold zipD at h
  rw [List.getElem?_zipWith] at h
  cases hx : ds[i]? with
  | none => rw [hx] at h; simp at h
  | some x =>
    cases hy : es[i]? with
    | none => rw [hx, hy] at h; simp at h
    | some y =>
      rw [hx, hy] at h
      exact ⟨x, y, rfl, rfl, (Option.some.inj h).symm⟩
theorem src_zipT {M : Addr → Prop} {H1 : Hp} {a b : Addr} {vs us : List V} {ds es : List D} (w : Wf W M H1) (hs : SqT W.K H1 a vs) (hr : Reps W M H1 vs ds) (hs' : SqT W.K H1 b us) (hr' : Reps W M H1 us es) : Src W M (ItzT W.K a b) H1 (zipD ds es) := fun M' hm hn i H2 k g => by
  have wg : Wg W M' H1 := ⟨w.g, fun b e => hm b (w.sm b e)⟩
  have wg2 : Wg W M' H2 := ⟨g, fun b e => hm b (w.sm b e)⟩
  have hs2 := sqT_keepM wg (k.mono hm) hs
  have hs3 := sqT_keepM wg (k.mono hm) hs'
  have hr2 : Reps W M' H2 vs ds := (hr.more hn).keepM wg (k.mono hm)
  have hr3 : Reps W M' H2 us es := (hr'.more hn).keepM wg (k.mono hm)
  refine ⟨fun hl => ⟨vs, us, hs2, hs3, ?_⟩, fun d hd => ?_⟩
  · rw [hr2.length, hr3.length]
    unfold zipD at hl
    rw [List.length_zipWith] at hl
    omega
  · obtain ⟨x, y, hx, hy, rfl⟩ := zipD_get hd
    obtain ⟨v, hv, rv⟩ := hr2.get hx
    obtain ⟨u, hu, ru⟩ := hr3.get hy
    refine ⟨⟨vs, us, v, u, hs2, hs3, hv, hu⟩, fun z H3 yy => ?_⟩
    obtain ⟨T, x1, y1, rfl, hT, rfl, f1, f2⟩ := yy
    have e1 := f1 vs hs2
    have e2 := f2 us hs3
    rw [hv] at e1
    rw [hu] at e2
    cases e1
    cases e2
    have kn : Keep W H2 (upd H2 T (.tup [v, u])) := Keep.new hT
    exact ⟨g.new hT, kn, .tup (SqT.of upd_same) (.cons (rv.keepG wg2 kn) (.cons (ru.keepG wg2 kn) .nil))⟩
theorem it_zipT {P : List D → Prop} {ta : TA} (h : EvA W ta δ fun xs => ∃ ds es, xs = [.tup ds, .tup es] ∧ P (zipD ds es)) : IterD W (iZipA W.K ta) δ P := fun M σ H p R q => h M σ H p _ fun vs ds H1 g1 k1 r1 h1 => by
  obtain ⟨ds, es, rfl, hP⟩ := h1
  cases r1 with
  | cons r1 r2 =>
    cases r2 with
    | cons r2 r3 =>
      cases r3
      cases r1 with
      | tup hs hr =>
        cases r2 with
        | tup hs' hr' => exact ⟨_, _, _, _, rfl, .inr ⟨hs, hs', q _ H1 _ g1 k1 hP (src_zipT (p.wf.next g1 k1) hs hr hs' hr')⟩⟩
theorem sd_for {wi : TI} (h : IterD W wi δ fun ds => ∃ Inv : Nat → DS → Prop, Inv 0 δ ∧ (∀ i d δ', ds[i]? = some d → Inv i δ' → ∃ js, GD W g d δ' js fun δ2 => SX W Wx ts δ2 (Inv (i + 1)) R N (Inv (i + 1)) X) ∧ ∀ δ', Inv ds.length δ' → N δ') : SX W Wx (tFor wi g ts) δ N R B C X := fun M0 H0 M σ H E p e o =>
  h M σ H p _ fun J H1 ds g1 k1 ⟨I, i0, it, ie⟩ src => by
    refine ⟨fun i m σ' H' => m = ds.length - i ∧ i ≤ ds.length ∧ ∃ M' δ', Pre W M' δ' σ' H' ∧ Ent W M H1 M' H' ∧ I i δ', ⟨_, rfl, Nat.zero_le _, M, δ, p.next g1 k1, ⟨Keep.refl _, fun _ x => x, fun a x y => absurd x y⟩, i0⟩, ?_⟩
    rintro i m σ' H' ⟨rfl, hi, M', δ', p', e', hI⟩
    have base : ∀ {M2 : Addr → Prop} {H2 : Hp}, Ent W M H1 M2 H2 → Ent W M0 H0 M2 H2 := fun {M2 H2} x => ⟨(e.k.trans k1).trans x.k, fun a ha => x.m a (e.m a ha), fun a ha hn => by
      by_cases hM : M a
      · exact e.new a hM hn
      · have h1 := x.new a ha hM
        cases h0 : H0 a with
        | none => rfl
        | some oo =>
          have ns : W.s ≠ some a := fun z => hM (p.wf.sm a z)
          rw [k1 a oo ns (e.k a oo ns h0)] at h1
          cases h1⟩
    obtain ⟨s1, s2⟩ := src M' e'.m e'.new i H' e'.k.toM p'.wf.g
    by_cases hlt : i < ds.length
    · obtain ⟨hgo, hy⟩ := s2 ds[i] (List.getElem?_eq_getElem hlt)
      refine .inr ⟨hgo, fun σ2 H2 => ∃ M2 δ2, Pre W M2 δ2 σ2 H2 ∧ Ent W M H1 M2 H2 ∧ I (i + 1) δ2, ?_, fun x H3 y => ?_⟩
      · rintro σ2 H2 ⟨M2, δ2, q1, q2, q3⟩
        exact ⟨_, by omega, rfl, hlt, M2, δ2, q1, q2, q3⟩
      · obtain ⟨g3, k3, r3⟩ := hy x H3 y
        obtain ⟨js, hg⟩ := it i ds[i] δ' (List.getElem?_eq_getElem hlt) hI
        refine hg M' σ' H3 x (p'.next g3 k3) r3 _ fun σ4 δ4 p4 hb _ => ?_
        refine hb M H1 M' σ4 H3 _ p4 (e'.next k3) ⟨fun M5 σ5 δ5 H5 p5 e5 x5 => ⟨M5, δ5, p5, e5, x5⟩, fun v d H5 g5 k5 r5 x5 => o.rt v d H5 g5 ((e.k.trans k1).trans k5) (r5.anti e.m) x5, fun M5 σ5 δ5 H5 p5 e5 x5 => o.nx M5 σ5 δ5 H5 p5 (base e5) x5, fun M5 σ5 δ5 H5 p5 e5 x5 => ⟨M5, δ5, p5, e5, x5⟩, fun M5 σ5 δ5 H5 cls d5 x5 p5 e5 r5 h5 => o.xw M5 σ5 δ5 H5 cls d5 x5 p5 (base e5) r5 h5⟩
    · have ee : i = ds.length := by omega
      refine .inl ⟨s1 ee, o.nx M' σ' δ' H' p' (base e') (ie δ' ?_)⟩
      rw [← ee]
      exact hI
/-- what gives a list that was not there before -/
def EvF (W : Wd) (te : TE) (δ : DS) (P : List D → Prop) : Prop := ∀ (M : Addr → Prop) (σ : L2.St) (H : Hp), Pre W M δ σ H → ∀ Q : VK,
  (∀ (a : Addr) (vs : List V) (ds : List D) (H' : Hp), StOk W H' → Keep W H H' → H a = none → ¬ M a → H' a = some (.lst vs) → Reps W (fun b => M b ∨ b = a) H' vs ds → P ds → Q (.ref a) H') → te σ H Q
theorem ev_ofF {P : D → Prop} (h : EvF W te δ fun ds => P (.lst ds)) : EvD W te δ P := fun M σ H p Q q => h M σ H p Q fun a vs ds H' g k hn nm hv r hP => q _ (.lst ds) H' g k (.lst nm hv (r.anti fun _ x => .inl x)) hP
theorem ev_lcF1 {wi : TI} {tt : TT} {vs : List Nat} {P : List D → Prop} {M : Addr → Prop} {σ : L2.St} {H : Hp} (p : Pre W M δ σ H) (h : ∀ R : It → Hp → Prop, (∀ (J : It) (H1 : Hp) (ds : List D), StOk W H1 → Keep W H H1 → (ds.length ≤ 100000 ∧ ∃ Inv : Nat → List D → Prop, Inv 0 [] ∧
    (∀ i d acc, ds[i]? = some d → Inv i acc → ∃ js, (∀ j ∈ js, j ∈ vs) ∧ GD W g d (wipeD δ vs) js fun δ2 => EvT W tt δ2 fun b => (b = true → EvD W te δ2 fun y => Inv (i + 1) (acc ++ [y])) ∧ (b = false → Inv (i + 1) acc)) ∧ ∀ acc, Inv ds.length acc → P acc) → Src W M J H1 ds → R J H1) → wi σ H R) :
    ∀ Q : VK, (∀ (a : Addr) (vs : List V) (ds : List D) (H' : Hp), StOk W H' → Keep W H H' → H a = none → ¬ M a → H' a = some (.lst vs) → Reps W (fun b => M b ∨ b = a) H' vs ds → P ds → Q (.ref a) H') → tLc wi g tt te vs σ H Q := fun Q q =>
  h _ fun J H1 ds g1 k1 ⟨hlen, I, i0, it, ie⟩ src => by
    intro Dl hD
    have p1 := p.next g1 k1
    let M' : Addr → Prop := fun a => M a ∨ a = Dl
    have hm : ∀ a, M a → M' a := fun a x => .inl x
    have hn : ∀ a, M' a → ¬ M a → H1 a = none := fun a x y => by
      rcases x with x | x
      · exact absurd x y
      · rw [x]; exact hD
    have hns : W.s ≠ some Dl := fun z => by
      obtain ⟨ns, i, c, m, q, _⟩ := g1 Dl z
      rw [hD] at q
      cases q
    have notM : ¬ M Dl := fun m => by
      obtain ⟨o, ho⟩ := p1.wf.dom Dl m
      rw [hD] at ho
      cases ho
    refine ⟨fun i m H' => m = ds.length - i ∧ i ≤ ds.length ∧ ∃ acc vs', Keep W H1 H' ∧ StOk W H' ∧ H' Dl = some (.lst vs') ∧ Reps W M' H' vs' acc ∧ acc.length ≤ i ∧ I i acc, ⟨_, rfl, Nat.zero_le _, [], [], Keep.new hD, g1.new hD, upd_same, .nil, Nat.zero_le _, i0⟩, ?_⟩
    rintro i m H' ⟨rfl, hi, acc, vs', kH, gH, eD, rA, hal, hI⟩
    have wf' : Wf W M' H' := ⟨gH, fun a z => .inl (p.wf.sm a z), fun a x => by
      rcases x with x | x
      · exact (p1.wf.next gH kH).dom a x
      · rw [x]; exact ⟨_, eD⟩⟩
    obtain ⟨s1, s2⟩ := src M' hm hn i H' kH.toM gH
    by_cases hlt : i < ds.length
    · obtain ⟨hgo, hy⟩ := s2 ds[i] (List.getElem?_eq_getElem hlt)
      refine .inr ⟨hgo, fun H2 => ∃ acc vs', Keep W H1 H2 ∧ StOk W H2 ∧ H2 Dl = some (.lst vs') ∧ Reps W M' H2 vs' acc ∧ acc.length ≤ i + 1 ∧ I (i + 1) acc, ?_, fun x H3 y => ?_⟩
      · rintro H2 ⟨acc2, vs2, z⟩
        exact ⟨_, by omega, rfl, hlt, acc2, vs2, z⟩
      · obtain ⟨g3, k3, r3⟩ := hy x H3 y
        have wf3 := wf'.next g3 k3
        obtain ⟨js, hjs, hg⟩ := it i ds[i] acc (List.getElem?_eq_getElem hlt) hI
        have sl : Slots W M' H3 (wipe σ vs) (wipeD δ vs) := by
          have s0 : Slots W M H1 (wipe σ vs) (wipeD δ vs) := p1.sl.wipe vs
          have wg : Wg W M' H1 := ⟨g1, fun a z => .inl (p.wf.sm a z)⟩
          exact ⟨s0.len, fun j d hd => by
            obtain ⟨v, a1, a2⟩ := s0.get j d hd
            exact ⟨v, a1, (a2.more hn).keepG wg (kH.trans k3)⟩⟩
        refine hg M' (wipe σ vs) H3 x ⟨wf3, sl⟩ r3 _ fun σ4 δ4 p4 hb hw => ?_
        refine ⟨by rw [hw vs hjs, wipe_wipe], ?_⟩
        refine hb M' σ4 H3 p4 _ fun b H5 g5 k5 h5 => ?_
        have p5 := p4.next g5 k5
        have eD5 : H5 Dl = some (.lst vs') := k5 Dl _ hns (k3 Dl _ hns eD)
        have rA5 : Reps W M' H5 vs' acc := (rA.keep wf' k3).keep wf3 k5
        cases b with
        | true =>
          rw [if_pos rfl]
          refine h5.1 rfl M' σ4 H5 p5 _ fun v d H6 g6 k6 r6 h6 => ?_
          have eD6 : H6 Dl = some (.lst vs') := k6 Dl _ hns eD5
          have kU : ∀ a o, a ≠ Dl → H6 a = some o → (upd H6 Dl (.lst (vs' ++ [v]))) a = some o := fun a o na ho => by rw [upd_ne na]; exact ho
          have gU : StOk W (upd H6 Dl (.lst (vs' ++ [v]))) := fun s hs => by
            obtain ⟨ns, i', c, m, q1, q2, q3, q4⟩ := g6 s hs
            refine ⟨ns, i', c, m, kU s _ (fun z => hns (z ▸ hs)) q1, q2, kU W.b _ (fun z => ?_) q3, q4⟩
            obtain ⟨ns0, i0', c0, m0, q10, q20, q30, q40⟩ := g1 s hs
            rw [z, hD] at q30
            cases q30
          have kX : ∀ {H7 : Hp}, Keep W H1 H7 → Keep W H1 (upd H7 Dl (.lst (vs' ++ [v]))) := fun kk a o ns ho => by
            rw [upd_ne (ne_of_none ho hD)]
            exact kk a o ns ho
          refine ⟨vs', eD6, ?_, acc ++ [d], vs' ++ [v], kX (((kH.trans k3).trans k5).trans k6), gU, upd_same, ?_, ?_, h6⟩
          · rw [(rA5).length]
            exact Nat.lt_of_lt_of_le (Nat.lt_of_le_of_lt hal (Nat.lt_of_lt_of_le hlt hlen)) (by decide)
          · exact ((rA5.keep p5.wf k6).append (.cons r6 .nil)).upd (rdT_lst eD6) (.inr rfl)
          · simp; omega
        | false =>
          rw [if_neg Bool.false_ne_true]
          exact ⟨acc, vs', ((kH.trans k3).trans k5), g5, eD5, rA5, by omega, h5.2 rfl⟩
    · have ee : i = ds.length := by omega
      refine .inl ⟨s1 ee, q Dl vs' acc H' gH (k1.trans kH) ?_ notM eD rA (ie acc (ee ▸ hI))⟩
      cases z : H Dl with
      | none => rfl
      | some oo =>
        rw [k1 Dl oo hns z] at hD
        cases hD
theorem ev_lcF {wi : TI} {tt : TT} {vs : List Nat} {P : List D → Prop} (h : IterD W wi δ fun ds => ds.length ≤ 100000 ∧ ∃ Inv : Nat → List D → Prop, Inv 0 [] ∧
    (∀ i d acc, ds[i]? = some d → Inv i acc → ∃ js, (∀ j ∈ js, j ∈ vs) ∧ GD W g d (wipeD δ vs) js fun δ2 => EvT W tt δ2 fun b => (b = true → EvD W te δ2 fun y => Inv (i + 1) (acc ++ [y])) ∧ (b = false → Inv (i + 1) acc)) ∧ ∀ acc, Inv ds.length acc → P acc) :
    EvF W (tLc wi g tt te vs) δ P := fun M σ H p Q q => ev_lcF1 p (h M σ H p) Q q
theorem ev_lc {wi : TI} {tt : TT} {vs : List Nat} {P : D → Prop} (h : IterD W wi δ fun ds => ds.length ≤ 100000 ∧ ∃ Inv : Nat → List D → Prop, Inv 0 [] ∧
    (∀ i d acc, ds[i]? = some d → Inv i acc → ∃ js, (∀ j ∈ js, j ∈ vs) ∧ GD W g d (wipeD δ vs) js fun δ2 => EvT W tt δ2 fun b => (b = true → EvD W te δ2 fun y => Inv (i + 1) (acc ++ [y])) ∧ (b = false → Inv (i + 1) acc)) ∧ ∀ acc, Inv ds.length acc → P (.lst acc)) :
    EvD W (tLc wi g tt te vs) δ P := ev_ofF (ev_lcF h)
end
end PD
namespace PD
open PySem PySem.Spec PyProof.Rows L2
open RZ (iZipA ItzT)
abbrev fr (p : Fr) : D := .tup [.int p.1, .int p.2]
def Sz (n : Nat) (p : Fr) : Prop := p.1.natAbs < 2 ^ n ∧ p.2.natAbs < 2 ^ n
abbrev un (l : List Fr) : D := .tup (l.map fr)
/-- an item of a written list, whichever -/
theorem rd_ixLm {W : Wd} {P : D → Prop} {r : Int} {ds : List D} (h0 : 0 ≤ r) (h1 : r < ds.length) (hP : ∀ d ∈ ds, P d) : RD W (rIx W.K) (.lst ds) (.int r) P := by
  obtain ⟨j, rfl⟩ := Int.eq_ofNat_of_zero_le h0
  have hj : j < ds.length := by omega
  exact rd_ixL (j := j) rfl (List.getElem?_eq_getElem hj) (hP _ (List.getElem_mem hj))
theorem cpow_ok {i j : Int} (h : (decide (0 ≤ j) && (decide (j ≤ 1000000) && decide (i.natAbs < 18446744073709551616))) = true) : CPow i j := by
  rw [Bool.and_eq_true, Bool.and_eq_true] at h
  exact ⟨of_decide_eq_true h.1, of_decide_eq_true h.2.1, of_decide_eq_true h.2.2⟩
theorem e40 : (10 : Int) ^ (40 : Int).toNat = 10000000000000000000000000000000000000000 := by decide
theorem sz40 {r : Int} (h : r.natAbs < 10000000000000000000000000000000000000000) : r.natAbs < 2 ^ 134 := Nat.lt_trans h (by decide)
/-! ### data that are judged -/
def D.toI : D → Int
  | .int i => i
  | _ => 0
def isFr : D → Bool
  | .tup [a, b] => a.isInt && b.isInt && decide (1 ≤ b.toI) && decide (gcdI a.toI b.toI = 1)
  | _ => false
theorem isFr_ints {i j : Int} (h : 1 ≤ j) : isFr (.tup [.int i, .int j]) = decide (((Nat.gcd i.natAbs j.natAbs : Nat) : Int) = 1) := by
  show (true && true && decide (1 ≤ j) && decide (gcdI i j = 1)) = _
  rw [decide_eq_true h, Bool.true_and, Bool.true_and, Bool.true_and]
  exact decide_eq_decide.mpr ⟨fun z => by unfold gcdI at z; omega, fun z => by unfold gcdI; omega⟩
theorem isFr_low {i j : Int} (h : ¬ 1 ≤ j) : isFr (.tup [.int i, .int j]) = false := by
  show (true && true && decide (1 ≤ j) && decide (gcdI i j = 1)) = _
  rw [decide_eq_false h, Bool.and_false, Bool.false_and]
theorem isFr_fr {p : Fr} (h : IsF p) : isFr (fr p) = true := by
  show (true && true && decide (1 ≤ p.2) && decide (gcdI p.1 p.2 = 1)) = true
  rw [decide_eq_true h.1, decide_eq_true h.2]
  rfl
theorem isInt_of {x : D} (h : x.isInt = true) : ∃ i, x = .int i := by
  cases x <;> first | cases h; done | exact ⟨_, rfl⟩
theorem plain_ty {x : D} (h : x.plain = true) : x.tyName.isSome = true := by cases x <;> first | rfl | (simp [D.plain] at h)
theorem plains_mem {xs : List D} (h : D.plains xs = true) {x : D} (hx : x ∈ xs) : x.plain = true := by
  induction xs with
  | nil => cases hx
  | cons y ys ih =>
    simp only [D.plains, Bool.and_eq_true] at h
    rcases List.mem_cons.mp hx with rfl | hx
    · exact h.1
    · exact ih h.2 hx
def isAny : D → Bool
  | .tup xs => decide (1 ≤ xs.length) && decide (xs.length ≤ 3) && xs.all isFr
  | _ => false
def D.len : D → Int
  | .tup xs => xs.length
  | _ => -1
theorem un_plain (l : List Fr) : D.plain (un l) = true := by
  show D.plains (l.map fr) = true
  induction l with
  | nil => rfl
  | cons p l ih =>
    show (D.plain (fr p) && D.plains (l.map fr)) = true
    rw [ih]
    rfl
theorem isAny_un {l : List Fr} (h1 : 1 ≤ l.length) (h3 : l.length ≤ 3) (h : ∀ p ∈ l, IsF p) : isAny (un l) = true := by
  show (decide (1 ≤ (l.map fr).length) && decide ((l.map fr).length ≤ 3) && (l.map fr).all isFr) = true
  rw [List.length_map, decide_eq_true h1, decide_eq_true h3, List.all_map]
  simp only [Bool.true_and, List.all_eq_true]
  exact fun p hp => isFr_fr (h p hp)
theorem zipD_len2 (xs ys : List D) : (zipD xs ys).length = min xs.length ys.length := by unfold zipD; exact List.length_zipWith
theorem zipD_fr {u v : List Fr} {i : Nat} {d : D} (h : (zipD (u.map fr) (v.map fr))[i]? = some d) : ∃ p q, u[i]? = some p ∧ v[i]? = some q ∧ d = .tup [fr p, fr q] := by
  obtain ⟨x, y, hx, hy, rfl⟩ := zipD_get h
  rw [List.getElem?_map] at hx hy
  cases hp : u[i]? with
  | none => rw [hp] at hx; cases hx
  | some p =>
    cases hq : v[i]? with
    | none => rw [hq] at hy; cases hy
    | some q =>
      rw [hp] at hx
      rw [hq] at hy
      cases hx
      cases hy
      exact ⟨p, q, rfl, rfl, rfl⟩
theorem zip_fr {u v : List Fr} {i : Nat} {p q : Fr} {f : Fr → Fr → Fr} (hp : u[i]? = some p) (hq : v[i]? = some q) : ((List.zipWith f u v).map fr)[i]? = some (fr (f p q)) := by
  rw [List.getElem?_map, List.getElem?_zipWith, hp, hq]
  rfl
mutual
/-- no int within is great -/
def D.small : D → Bool
  | .int i => decide (i.natAbs < 2 ^ 8000)
  | .tup xs | .lst xs => D.smalls xs
  | _ => true
def D.smalls : List D → Bool
  | [] => true
  | x :: xs => x.small && D.smalls xs
end
theorem smalls_mem {xs : List D} (h : D.smalls xs = true) {x : D} (hx : x ∈ xs) : x.small = true := by
  induction xs with
  | nil => cases hx
  | cons y ys ih =>
    simp only [D.smalls, Bool.and_eq_true] at h
    rcases List.mem_cons.mp hx with rfl | hx
    · exact h.1
    · exact ih h.2 hx
theorem fr_small {p : Fr} (h : Sz 8000 p) : D.small (fr p) = true := by
  simp only [D.small, D.smalls, Bool.and_true, Bool.and_eq_true]
  exact ⟨decide_eq_true h.1, decide_eq_true h.2⟩
theorem un_small {l : List Fr} (h : ∀ p ∈ l, Sz 8000 p) : D.small (un l) = true := by
  simp only [D.small]
  induction l with
  | nil => rfl
  | cons p l ih =>
    show (D.small (fr p) && D.smalls (l.map fr)) = true
    rw [ih fun q hq => h q (List.mem_cons_of_mem _ hq), fr_small (h p List.mem_cons_self)]
    rfl
def isUn (n : Int) : D → Bool
  | .tup xs => decide ((xs.length : Int) = n) && xs.all isFr
  | _ => false
theorem isUn_un {l : List Fr} {n : Int} (h1 : (l.length : Int) = n) (h : ∀ p ∈ l, IsF p) : isUn n (un l) = true := by
  show (decide (((l.map fr).length : Int) = n) && (l.map fr).all isFr) = true
  rw [List.length_map, decide_eq_true h1, List.all_map]
  simp only [Bool.true_and, List.all_eq_true]
  exact fun p hp => isFr_fr (h p hp)
theorem fr_fine (p : Fr) : D.fine (fr p) = true := by
  simp [D.fine, D.plain, D.plains, D.py, D.pys, SeqAt.shaped, PyData.canLay0, PyData.canLayAll0, PyData.depth, PyData.depthAll]
theorem fr_eqv (p q : Fr) : D.eqv (fr p) (fr q) = decide (p = q) := by
  obtain ⟨a, b⟩ := p
  obtain ⟨c, d⟩ := q
  show PyData.eqv (D.py _) (D.py _) = _
  simp only [D.py, D.pys, PyData.eqv, PyData.eqvAll, Bool.and_true]
  by_cases h1 : a = c
  · by_cases h2 : b = d
    · subst h1 h2; simp
    · simp [h1, h2]
  · simp [h1]
theorem un_lays (l : List Fr) : PyData.canLayAll0 (D.pys (l.map fr)) = true ∧ PyData.depthAll (D.pys (l.map fr)) ≤ 1 := by
  induction l with
  | nil => simp [D.pys, PyData.canLayAll0, PyData.depthAll]
  | cons p l ih =>
    simp [D.py, D.pys, PyData.canLay0, PyData.canLayAll0, PyData.depth, PyData.depthAll, ih.1]
    have := ih.2
    omega
theorem un_fine (l : List Fr) : D.fine (un l) = true := by
  have h := un_lays l
  unfold D.fine
  rw [un_plain]
  show (true && (PyData.canLay0 (D.py (un l)) && decide (PyData.depth (D.py (un l)) ≤ 64))) = true
  simp only [D.py, PyData.canLay0, PyData.depth, h.1, Bool.true_and, decide_eq_true_eq]
  omega
theorem eqv_refl0 {d : PyData} (h : d.canLay0 = true) : PyData.eqv d d = true := SeqAt.eqv_refl d h
theorem D.eqv_self {d : D} (h : d.fine = true) : d.eqv d = true := by
  have h1 := (Bool.and_eq_true_iff.mp h).2
  exact eqv_refl0 (SeqAt.canLay_of_shaped h1)
theorem isFr_no2 {xs : List D} (h : xs.length ≠ 2) : isFr (.tup xs) = false := by
  match xs with
  | [] => rfl
  | [_] => rfl
  | [_, _] => exact absurd rfl h
  | _ :: _ :: _ :: _ => rfl
/-- a def of the text as the top leaves it -/
structure DefT (K : PySem.W.Frag) (mg : Str → Option Value) (x : Str) (st : Stmt) (ps : List Str) where
  f : Addr
  d : FuncData
  F : L2.Fun K x x st f d
  g : mg x = some (.ref f)
  b : Binds K d ps []
/-! ### rules with the written part told -/
section
variable {X : Cx} {K : PySem.W.Frag}
theorem ix_seqK (h : X.K = K) : IxR X (rIx K) := by subst h; exact ix_seq
theorem op_eqDK (h : X.K = K) (hu : X.A.units + 64 < cLine) : OpR X (compareOp .Eq) (rEqD K) := by subst h; exact op_eqD hu
theorem op_neDK (h : X.K = K) (hu : X.A.units + 64 < cLine) : OpR X (compareOp .NotEq) (rNeD K) := by subst h; exact op_neD hu
theorem op_plusK (h : X.K = K) : OpR X (binaryOp .Add) (rPlus K) := by subst h; exact op_plus
theorem cr_allK (h : X.K = K) (hc : X.calm = true) : CallR X (.builtin "all") (rAll K) := by subst h; exact cr_all hc
theorem call_isiK' (h : X.K = K) : CallR X (.builtin "isinstance") (rIsi K) := by subst h; exact call_isi
theorem call_lenK (h : X.K = K) : CallR X (.builtin "len") (fun xs H Q => ∃ x n, xs = [x] ∧ LenV K x H n ∧ Q (.int n) H) := by subst h; exact call_len
theorem call_tuple_ofK (h : X.K = K) : CallR X (.type "tuple") (fun xs H Q => ∃ p ys, xs = [.ref p] ∧ ((SqL K H p ys ∧ ∀ l, H l = none → Q (.ref l) (upd H l (.tup ys))) ∨ (SqT K H p ys ∧ Q (.ref p) H))) := by subst h; exact call_tuple_of
theorem call_list_ofK (h : X.K = K) : CallR X (.type "list") (fun xs H Q => ∃ p ys, xs = [.ref p] ∧ (SqL K H p ys ∨ SqT K H p ys) ∧ ∀ l, H l = none → Q (.ref l) (upd H l (.lst ys))) := by subst h; exact call_list_of
theorem pi_seqK {tg iter : Expr} {tl : TE} (h : X.K = K) (hl : PE X iter tl) : PI X tg iter (iSeq K tl) := by subst h; exact pi_seq (pi_list hl) (pi_tup hl)
theorem pi_zipAK {e e2 : Expr} {ta : TA} {p pos tpos : Pos} {elts : List Expr} {kk : Nat} (h : X.K = K) (hg : Gl X "zip") (hm : X.mg "zip" = none) (ha : PA X [e, e2] ta)
    (hs : starEach [e, e2] X.env = (false, eval e X.env) :: starEach [e2] X.env := by rfl) (hpl : (backTo pos (starEach [e2] X.env)).any (·.1) = false := by rfl) :
    PI X (.Tuple elts kk tpos) (.Call (.Name "zip" p) [e, e2] [] pos) (iZipA K ta) := by subst h; exact RZ.pi_zipA hg hm ha hs hpl
theorem pg_tupK {es : List Expr} {k : Nat} {t : TGs} {n : Nat} {pos : Pos} (h : X.K = K) (hc : X.calm = true) (ht : PGs X es t)
    (hn : (assignEach es X.env).length = n := by rfl) (hst : (assignEach es X.env).findIdx? (·.1) = none := by rfl) : PG X (.Tuple es k pos) (gTup K n t) := by subst h; exact pg_tup hc ht hn hst
theorem sl_tupAK (h : X.K = K) : SlR X (rSlA K) := by subst h; exact sl_tupA
end
theorem hr_u {k : Nat} {A : Around} (hr : Room k A) : A.units + 64 < cLine := by
  have := hr.un
  omega
abbrev FD := List D → (D → Prop) → Prop
/-- a def's promise, by data -/
def spD (K : PySem.W.Frag) (F : FD) : Sp := fun vs H Q _ => ∃ (W : Wd) (M : Addr → Prop) (ds : List D) (P : D → Prop), W.K = K ∧ Wf W M H ∧ Reps W M H vs ds ∧ F ds P ∧ ∀ v d H', StOk W H' → Keep W H H' → Rep W M H' v d → P d → Q v H'
theorem spD_len {K : PySem.W.Frag} {F : FD} {n : Nat} (hF : ∀ ds P, F ds P → ds.length = n) (vs : List V) (H : Hp) (Q : VK) (E : XK) (h : spD K F vs H Q E) : vs.length = n := by
  obtain ⟨W, M, ds, P, _, _, r, f, _⟩ := h
  rw [r.length]
  exact hF ds P f
theorem ev_call {W : Wd} {δ : DS} {F : FD} {E : XK} {ta : TA} {P : D → Prop} (h : EvA W ta δ fun ds => F ds P) : EvD W (tCall (spD W.K F) [] E ta) δ P := fun M σ H p Q q =>
  h M σ H p _ fun vs ds H1 g1 k1 r1 h1 => ⟨W, M, ds, P, rfl, p.wf.next g1 k1, by rw [List.append_nil]; exact r1, h1, fun v d H2 g2 k2 r2 h2 => q v d H2 g2 (k1.trans k2) r2 h2⟩
def startD (n : Nat) (ds : List D) : DS := ds.map some ++ List.replicate (n - ds.length) none
theorem start_slots {W : Wd} {M : Addr → Prop} {H : Hp} {vs : List V} {ds : List D} (N : List Str) (r : Reps W M H vs ds) : Slots W M H (L2.start N vs) (startD N.length ds) where
  len := by simp [L2.start, startD, r.length]
  get := fun i d h => by
    unfold startD at h
    unfold L2.start
    by_cases hl : i < ds.length
    · rw [List.getElem?_append_left (by rw [List.length_map]; exact hl), List.getElem?_map] at h
      have e : ds[i]? = some d := by
        rw [List.getElem?_eq_getElem hl] at h ⊢
        exact Option.some.inj h
      obtain ⟨v, h1, h2⟩ := r.get e
      refine ⟨v, ?_, h2⟩
      rw [List.getElem?_append_left (by rw [List.length_map, r.length]; exact hl), List.getElem?_map, h1]
      rfl
    · rw [List.getElem?_append_right (by rw [List.length_map]; omega)] at h
      have := List.mem_of_getElem? h
      rw [List.mem_replicate] at this
      cases this.2
theorem body_of {K : PySem.W.Frag} {F : FD} {vs : List V} {H : Hp} {Q : VK} {E : XK} {N : List Str} {t : TS} (h : spD K F vs H Q E)
    (hb : ∀ W ds P, W.K = K → F ds P → SD W t (startD N.length ds) (fun _ => P .non) P (fun _ => False) (fun _ => False)) : t { nx := fun _ H' => Q .non H', rt := Q } (L2.start N vs) H := by
  obtain ⟨W, M, ds, P, e, w, r, f, q⟩ := h
  exact hb W ds P e f M H M _ H _ ⟨w, start_slots N r⟩ ⟨Keep.refl _, fun _ x => x, fun a x y => absurd x y⟩
    ⟨fun M' σ' δ' H' p' e' x => q .non .non H' p'.wf.g e'.k .non x, fun v d H' g k r' x => q v d H' g k r' x, fun _ _ _ _ _ _ x => x.elim, fun _ _ _ _ _ _ x => x.elim, fun _ _ _ _ _ _ _ _ _ _ x => x.elim⟩
/-! ### a law's own beginning -/
def spLaw (K : PySem.W.Frag) : Sp := fun vs H Q _ => ∃ (a : Addr) (ns : List Int), vs = [.ref a] ∧ SqL K H a (ns.map V.int) ∧ ns.length ≤ 63 ∧ ∀ H', Q (.bl true) H'
/-- an if, a word behind it -/
theorem if_mid {W : Wd} {c : Bool} {t u : TS} {δ : DS} {N : DS → Prop} {R : D → Prop} {B C : DS → Prop} (Mid : DS → Prop) (h1 : c = true → SD W t δ Mid R B C) (h2 : c = false → SD W u δ Mid R B C) (k : ∀ δ', Mid δ' → N δ') :
    (c = true → SD W t δ N R B C) ∧ (c = false → SD W u δ N R B C) := ⟨fun z => sd_mono (h1 z) k fun _ x => x, fun z => sd_mono (h2 z) k fun _ x => x⟩
/-! ### comprehensions, by what they give -/
theorem et_yes {W : Wd} {δ : DS} {P : Bool → Prop} (h : P true) : EvT W tYes δ P := fun M σ H p Q q => q true H p.wf.g (Keep.refl H) h
theorem take_snoc {α : Type} {l : List α} {i : Nat} {x : α} (h : l[i]? = some x) : l.take i ++ [x] = l.take (i + 1) := by
  rw [List.take_add_one, h]
  rfl
/-- the list that comes is known: L -/
theorem ev_lcLF {W : Wd} {δ : DS} {wi : TI} {g : TG} {te : TE} {vs : List Nat} {P : List D → Prop} (h : IterD W wi δ fun ds => ds.length ≤ 100000 ∧ ∃ L : List D, L.length = ds.length ∧
    (∀ (i : Nat) (d y : D), ds[i]? = some d → L[i]? = some y → ∃ js, (∀ j ∈ js, j ∈ vs) ∧ GD W g d (wipeD δ vs) js fun δ2 => EvD W te δ2 fun z => z = y) ∧ P L) : EvF W (tLc wi g tYes te vs) δ P :=
  ev_lcF fun M σ H p R q => h M σ H p R fun J H1 ds g1 k1 ⟨hl, L, hL, hs, hP⟩ => q J H1 ds g1 k1 ⟨hl, fun i acc => acc = L.take i, rfl, fun i d acc hd ha => by
    have hi : i < L.length := by rw [hL]; exact (List.getElem?_eq_some_iff.mp hd).1
    have hy : L[i]? = some L[i] := List.getElem?_eq_getElem hi
    obtain ⟨js, h1, h2⟩ := hs i d _ hd hy
    refine ⟨js, h1, fun M σ H v p r Q q => h2 M σ H v p r Q fun σ' δ' p' e' w' => q σ' δ' p' (et_yes ⟨fun _ => ev_mono e' fun z hz => ?_, fun z => by cases z⟩) w'⟩
    rw [ha, hz]
    exact take_snoc hy, fun acc ha => by
    rw [ha, ← hL, List.take_length]
    exact hP⟩
theorem ev_lcL {W : Wd} {δ : DS} {wi : TI} {g : TG} {te : TE} {vs : List Nat} {P : D → Prop} (h : IterD W wi δ fun ds => ds.length ≤ 100000 ∧ ∃ L : List D, L.length = ds.length ∧
    (∀ (i : Nat) (d y : D), ds[i]? = some d → L[i]? = some y → ∃ js, (∀ j ∈ js, j ∈ vs) ∧ GD W g d (wipeD δ vs) js fun δ2 => EvD W te δ2 fun z => z = y) ∧ P (.lst L)) : EvD W (tLc wi g tYes te vs) δ P := ev_ofF (ev_lcLF h)
/-- of the items that come something is known: G -/
theorem ev_lcAll {W : Wd} {δ : DS} {wi : TI} {g : TG} {te : TE} {vs : List Nat} {P : D → Prop} (G : D → Prop) (h : IterD W wi δ fun ds => ds.length ≤ 100000 ∧
    (∀ (i : Nat) (d : D), ds[i]? = some d → ∃ js, (∀ j ∈ js, j ∈ vs) ∧ GD W g d (wipeD δ vs) js fun δ2 => EvD W te δ2 G) ∧ ∀ l : List D, l.length = ds.length → (∀ y ∈ l, G y) → P (.lst l)) : EvD W (tLc wi g tYes te vs) δ P :=
  ev_lc fun M σ H p R q => h M σ H p R fun J H1 ds g1 k1 ⟨hl, hs, hP⟩ => q J H1 ds g1 k1 ⟨hl, fun i acc => acc.length = i ∧ ∀ y ∈ acc, G y, ⟨rfl, fun y hy => by cases hy⟩, fun i d acc hd ha => by
    obtain ⟨js, h1, h2⟩ := hs i d hd
    refine ⟨js, h1, fun M σ H v p r Q q => h2 M σ H v p r Q fun σ' δ' p' e' w' => q σ' δ' p' (et_yes ⟨fun _ => ev_mono e' fun z hz => ⟨?_, fun y hy => ?_⟩, fun z => by cases z⟩) w'⟩
    · rw [List.length_append, ha.1]
      rfl
    · rcases List.mem_append.mp hy with hy | hy
      · exact ha.2 y hy
      · rw [List.mem_singleton.mp hy]
        exact hz, fun acc ha => hP acc ha.1 ha.2⟩
/-! ### fractions as data, and their sizes -/
theorem lt_pow {n m k : Nat} (h : n < 2 ^ m) (hk : m ≤ k) : n < 2 ^ k := Nat.lt_of_lt_of_le h (Nat.pow_le_pow_right (by decide) hk)
theorem Sz.mono {n m : Nat} {p : Fr} (h : Sz n p) (hm : n ≤ m) : Sz m p := ⟨lt_pow h.1 hm, lt_pow h.2 hm⟩
theorem mul_ok {i j : Int} (h1 : i.natAbs < 2 ^ 2000) (h2 : j.natAbs < 2 ^ 2000) : CMulW i j := wide_mul h1 h2 (by decide) (by decide) (by decide)
theorem mul_okN {i j : Int} {m n : Nat} (h1 : i.natAbs < 2 ^ m) (h2 : j.natAbs < 2 ^ n) (h : m + n ≤ 900000) : CMulW i j :=
  wide_mul (a := m + 1) (b := n + 1) (Nat.lt_of_lt_of_le h1 (Nat.pow_le_pow_right (by decide) (Nat.le_succ _))) (Nat.lt_of_lt_of_le h2 (Nat.pow_le_pow_right (by decide) (Nat.le_succ _))) (Nat.succ_pos _) (Nat.succ_pos _) (by omega)
theorem mul_lt {i j : Int} {m n : Nat} (h1 : i.natAbs < 2 ^ m) (h2 : j.natAbs < 2 ^ n) : (i * j).natAbs < 2 ^ (m + n) := by
  rw [Int.natAbs_mul, Nat.pow_add]
  exact Nat.mul_lt_mul'' h1 h2
theorem prod_sz {i j : Int} (h1 : i.natAbs < 2 ^ 2000) (h2 : j.natAbs < 2 ^ 2000) : (i * j).natAbs < 2 ^ 8000 := lt_pow (mul_lt h1 h2) (by decide)
theorem div_ok {i j : Int} (h : 0 < j) (hb : j.natAbs < 2 ^ 8000) : CDivW i j := wide_div h hb (by decide) (by decide)
theorem mul_small {i j : Int} (h1 : -1000000000000 < i) (h2 : i < 1000000000000) (h3 : -1000000000000 < j) (h4 : j < 1000000000000) : CMulW i j :=
  wide_mul (a := 60) (b := 60) (by have : (2 : Nat) ^ 60 = 1152921504606846976 := by decide
                                   omega) (by have : (2 : Nat) ^ 60 = 1152921504606846976 := by decide
                                              omega) (by decide) (by decide) (by decide)
theorem div_small {i j : Int} (h1 : 0 < j) (h2 : j < 1000000000000) : CDivW i j :=
  wide_div (b := 60) h1 (by have : (2 : Nat) ^ 60 = 1152921504606846976 := by decide
                            omega) (by decide) (by decide)
theorem div_gcd {a b i : Int} (hb : 0 < b) (hs : b.natAbs < 2 ^ 8000) : CDivW i (gcdI a b : Int) := by
  have h1 := gcdI_pos (a := a) (b := b) (by omega)
  have h2 := gcdI_le (a := a) (b := b) (by omega)
  exact div_ok (by omega) (by omega)
theorem low_sz {a b : Int} {n : Nat} (ha : a.natAbs < 2 ^ n) (hb : b.natAbs < 2 ^ n) : Sz n (lowF a b) := by
  have d1 := gcdI_dvd1 a b
  have d2 := gcdI_dvd2 a b
  constructor
  · show (a / (gcdI a b : Int)).natAbs < 2 ^ n
    rw [Int.natAbs_ediv_of_dvd d1]
    exact Nat.lt_of_le_of_lt (Nat.div_le_self _ _) ha
  · show (b / (gcdI a b : Int)).natAbs < 2 ^ n
    rw [Int.natAbs_ediv_of_dvd d2]
    exact Nat.lt_of_le_of_lt (Nat.div_le_self _ _) hb
theorem add_lt {i j : Int} {n : Nat} (h1 : i.natAbs < 2 ^ n) (h2 : j.natAbs < 2 ^ n) : (i + j).natAbs < 2 ^ (n + 1) := by
  rw [Nat.pow_succ]
  omega
theorem addF_sz {p q : Fr} {m n : Nat} (hp : Sz m p) (hq : Sz n q) : Sz (m + n + 1) (addF p q) := by
  refine low_sz (add_lt (mul_lt hp.1 hq.2) ?_) (lt_pow (mul_lt hp.2 hq.2) (Nat.le_succ _))
  rw [Nat.add_comm]
  exact mul_lt hq.1 hp.2
theorem mulF_sz {p q : Fr} {m n : Nat} (hp : Sz m p) (hq : Sz n q) : Sz (m + n) (mulF p q) := low_sz (mul_lt hp.1 hq.1) (mul_lt hp.2 hq.2)
theorem pow_szk {b : Int} {m k r : Nat} (hb : b.natAbs < 2 ^ m) (hr : r ≤ k) : (b ^ r).natAbs < 2 ^ (m * k + 1) := by
  rw [Int.natAbs_pow]
  have h1 : b.natAbs ^ r ≤ (2 ^ m) ^ r := Nat.pow_le_pow_left (Nat.le_of_lt hb) r
  rw [← Nat.pow_mul] at h1
  have h2 : 2 ^ (m * r) ≤ 2 ^ (m * k) := Nat.pow_le_pow_right (by decide) (Nat.mul_le_mul_left _ hr)
  exact Nat.lt_of_le_of_lt (Nat.le_trans h1 h2) (Nat.pow_lt_pow_right (by decide) (Nat.lt_succ_self _))
theorem powF_sz {p : Fr} {e : Int} {m E : Nat} (h : Sz m p) (he : e.natAbs ≤ E) : Sz (m * E + 1) (powF p e) := by
  unfold powF
  split
  · exact ⟨pow_szk h.2 he, pow_szk h.1 he⟩
  · exact ⟨pow_szk h.1 he, pow_szk h.2 he⟩
theorem facF_sz {s : Int} {B : Nat} : ∀ {l : List (Fr × Fr)} {acc : Fr} {n : Nat}, (∀ x ∈ l, Sz B (powF x.2 (expI s x.1))) → Sz n acc → Sz (n + l.length * B) (facF s acc l)
  | [], acc, n, _, h => by
    show Sz (n + 0 * B) acc
    rw [Nat.zero_mul, Nat.add_zero]
    exact h
  | (u, r) :: l, acc, n, hl, h => by
    have h1 := facF_sz (s := s) (B := B) (l := l) (acc := mulF acc (powF r (expI s u))) (fun x hx => hl x (List.mem_cons_of_mem _ hx)) (mulF_sz h (hl (u, r) List.mem_cons_self))
    have e : n + B + l.length * B = n + (l.length + 1) * B := by grind
    rw [e] at h1
    exact h1
theorem facF_snoc {s : Int} {x : Fr × Fr} : ∀ {l : List (Fr × Fr)} {acc : Fr}, facF s acc (l ++ [x]) = mulF (facF s acc l) (powF x.2 (expI s x.1))
  | [], acc => rfl
  | (u, r) :: l, acc => facF_snoc (l := l)
theorem negF_sz {p : Fr} {n : Nat} (hp : Sz n p) : Sz n (negF p) := ⟨by show (-p.1).natAbs < _; rw [Int.natAbs_neg]; exact hp.1, hp.2⟩
end PD
namespace PDI
open PySem PySem.Spec L2 PyProof.Rows
open AutoSeq1 (wpAny_loadPart')
/-! ### for i, x in enumerate(t), t a tuple -/
/-- the two objects that enumerate(t) lays -/
def eIt (l : Addr) : Obj := { cls := .type "tuple_iterator", data := .fields #[.ref l, .int 0 0] }
def eOb (i : Addr) : Obj := { cls := .type "enumerate", data := .fields #[.none, .bool false, .ref i, rawInt 0, .none, .none] }
def eHeap (h : Heap) (l : Addr) : Heap := (h.push (eIt l)).push (eOb h.objs.size)
theorem eHeap_keep {h : Heap} {l b : Addr} {o : Obj} (e : h.get? b = some o) : (eHeap h l).get? b = some o := Heap.get?_push_of_some _ (Heap.get?_push_of_some _ e)
theorem eHeap_it (h : Heap) (l : Addr) : (eHeap h l).get? h.objs.size = some (eIt l) := Heap.get?_push_of_some _ (Heap.get?_push_size _ rfl)
theorem eHeap_ob (h : Heap) (l : Addr) : (eHeap h l).get? (h.objs.size + 1) = some (eOb h.objs.size) := by
  have z := Heap.get?_push_size (h.push (eIt l)) (o := eOb h.objs.size) rfl
  rwa [Heap.size_push] at z
theorem new_enumT (l : Addr) (xs : Array Value) (n : Nat) (dd : Option Addr) (sl : Array (Option Value)) :
    Meets (Builtin.«enumerate.__new__» ⟨[.type "enumerate", .ref l], []⟩) fun _ R s => s.heap.get? l = some { cls := .type "tuple", dict := dd, data := .seq xs n, slots := sl } ∧ R (.ok (.ret (.ref (s.heap.push (eIt l)).objs.size))) { s with heap := eHeap s.heap l } :=
  Meets.of_wp fun prog w A R s ⟨hl, hR⟩ => by
    rcases s with ⟨heap, gens, dr, toks, os⟩
    have sub := sub_enumerate
    have tup : heap.IsTuple l xs := ⟨_, hl, rfl, n, rfl⟩
    unfold eHeap eIt eOb at hR
    wp_walk using wpAny_loadPart' hl
    refine wpAny_stack_any fun _ => wpAny_pure ?_
    split
    · rename_i c _ _ _ _ _
      cases (c == Value.type "enumerate") <;> (wp_walk using wpAny_loadPart' hl, wpAny_pyIter_tuple tup; exact ⟨_, rfl, hR⟩)
    · (wp_walk using wpAny_loadPart' hl, wpAny_pyIter_tuple tup; exact ⟨_, rfl, hR⟩)
theorem run_enumT {prog : Program} {w : World} {A : Around} {E Q : Value → Shared → Prop} {s : Shared} {l : Addr} {xs : Array Value} (t : s.heap.IsTuple l xs) (q : Q (.ref (s.heap.objs.size + 1)) { s with heap := eHeap s.heap l }) :
    wpAny (model prog w) A (call (.type "enumerate") [Value.ref l]) Q E s := by
  obtain ⟨⟨cls, dd, data, sl⟩, hl, ec, n, ed⟩ := t
  cases (show cls = .type "tuple" from ec)
  cases (show data = .seq xs n from ed)
  have sz : (s.heap.push (eIt l)).objs.size = s.heap.objs.size + 1 := Heap.size_push ..
  refine callType_new F.called_enumerate (by decide) (F.typeCall_enumerate_1 _) (F.newCall_enumerate_1 _) (fun ob => F.args_object_init_2 ob _) F.entry_enumerate_new (new_enumT l xs n dd sl) ⟨hl, ?_⟩
  show (∃ o, (eHeap s.heap l).get? (s.heap.push (eIt l)).objs.size = some o ∧ _) ∧ _
  rw [sz]
  exact ⟨⟨_, eHeap_ob _ _, rfl⟩, q⟩
/-- the tuple at a, its items in new pairs with their numbers -/
def IteT (K : PySem.W.Frag) (a : Addr) : It where
  go := fun i H => ∃ (xs : List V) (x : V), SqT K H a xs ∧ xs[i]? = some x
  yld := fun i H v H' => ∃ T x, v = .ref T ∧ H T = none ∧ H' = upd H T (.tup [.int (i : Nat), x]) ∧ ∀ xs, SqT K H a xs → xs[i]? = some x
  stop := fun i H => ∃ xs : List V, SqT K H a xs ∧ xs.length = i
/-- how the two objects stand at the i-th turn -/
structure EnSt (a e it : Addr) (i : Nat) (h : Heap) : Prop where
  ob : ∃ old, IsEnum h e it (i : Int) old
  ti : h.IsTupleIter it a i
  n1 : e ≠ it
  n2 : a ≠ it
  n3 : a ≠ e
theorem two {e it b : Addr} (h : b ∈ [e, it]) : b = e ∨ b = it := by
  rcases List.mem_cons.mp h with z | z
  · exact .inl z
  · exact .inr (List.mem_singleton.mp z)
theorem turn_enumT {P : Program} {w : World} {K : PySem.W.Frag} {elts : List Expr} {kk : Nat} {tpos : Pos} (a e it : Addr) : Turn P w K (.Tuple elts kk tpos) (IteT K a) [e, it] e (EnSt a e it) where
  mem := List.mem_cons_self
  obj := fun i h st b hb => by
    obtain ⟨old, he⟩ := st.ob
    obtain ⟨o, ho, _, hd⟩ := st.ti
    rcases two hb with rfl | rfl
    · refine ⟨_, he, ?_⟩
      intro v q
      cases q
    · refine ⟨o, ho, ?_⟩
      intro v q
      rw [hd] at q
      cases q
  keep := fun i h h' st k => by
    obtain ⟨old, he⟩ := st.ob
    refine ⟨⟨old, k e List.mem_cons_self _ he⟩, ?_, st.n1, st.n2, st.n3⟩
    exact st.ti.at fun o q => k it (List.mem_cons_of_mem _ List.mem_cons_self) o q
  item := by
    rintro X rfl rfl rfl calm i pins s σ H E I young st ⟨xs, x, hs, hx⟩
    obtain ⟨old, he⟩ := st.ob
    obtain ⟨us, rel, isT, _⟩ := I.tuple hs
    obtain ⟨u, hu, ru⟩ := rel.get hx
    have inE : e < s.heap.objs.size := Heap.lt_size he
    have inI : it < s.heap.objs.size := by
      obtain ⟨_, q, _⟩ := st.ti
      exact Heap.lt_size q
    have lt : i < us.toArray.size := by
      have := (List.getElem?_eq_some_iff.mp hu).1
      simpa using this
    have apart : e ∉ [it, a] := fun m => by
      rcases two m with z | z
      · exact st.n1 z
      · exact st.n3 z.symm
    refine wpAny_pyNext_enum_itemC (Draws.tuple (prog := X.prog) (w := X.w) (A := X.A.in1) (I.ok.hd calm) it a st.n2 us.toArray) he ⟨st.ti, isT⟩ lt st.n1 apart fun y h1 tk gy own it1 pair _ same => ?_
    have ey : y = u := by
      have g1 : us.toArray[i]? = some y := gy
      rw [show us.toArray[i]? = some u by simpa using hu] at g1
      exact (Option.some.inj g1).symm
    subst ey
    refine ⟨_, rfl, wpAny_letOwnedTupleGo_enum (s := { s with heap := h1, toks := tk + 1 }) own fun h2 e2 off => ?_⟩
    generalize hp : s.heap.objs.size = p at *
    have far : ∀ b, b ∈ [e, it] → b ≠ p := fun b m z => by
      rcases two m with y | y
      · rw [← y, z] at inE
        exact Nat.lt_irrefl _ inE
      · rw [← y, z] at inI
        exact Nat.lt_irrefl _ inI
    have out : ∀ {b : Addr}, b ∉ [e, it] → b ≠ e ∧ b ≠ it := fun {b} n => ⟨fun z => n (by rw [z]; exact List.mem_cons_self), fun z => n (by rw [z]; exact List.mem_cons_of_mem _ List.mem_cons_self)⟩
    have pair2 : h2.get? p = some { cls := .type "tuple", data := .seq #[.int i tk, y] } := (off.2 p (far e List.mem_cons_self).symm).trans pair
    have J : Inv X pins σ (upd H p (.tup [.int (i : Nat), x])) { s with heap := h2, toks := tk + 1 } :=
      I.turnedNew (ch := [e, it]) (fun b o n q => (off.2 b (out n).1).trans (same b o (out n).1 (out n).2 q)) young (Nat.le_of_eq hp) ⟨by show 2 ≤ sizeLine; decide, [.int i tk, y], .cons ⟨_, rfl⟩ (.cons ru .nil), ⟨_, pair2, rfl, _, rfl⟩⟩
    refine ⟨.ref p, _, J, rfl, ⟨p, x, rfl, I.hok.fresh (Nat.le_of_eq hp), rfl, fun ys hy => ?_⟩, ⟨⟨y, ?_⟩, ?_, st.n1, st.n2, st.n3⟩, fun b m => ?_⟩
    · rw [I.tuple_inj hy hs]
      exact hx
    · rw [show ((i + 1 : Nat) : Int) = (i : Int) + 1 from Int.natCast_add i 1]
      exact e2
    · exact it1.1.at fun o q => (off.2 it st.n1.symm).trans q
    · exact (upd_ne (far b m)).trans (young b m).1
  done := by
    rintro X rfl rfl rfl calm i pins s σ H E I young st ⟨xs, hs, hx⟩
    obtain ⟨old, he⟩ := st.ob
    obtain ⟨us, rel, isT, _⟩ := I.tuple hs
    have len : us.toArray.size = i := by
      have := rel.length
      simp
      omega
    have y1 := young it (List.mem_cons_of_mem _ List.mem_cons_self)
    refine wpAny_pyNext_enum_endD (Draws.tuple (prog := X.prog) (w := X.w) (A := X.A.in1) (I.ok.hd calm) it a st.n2 us.toArray) he (by rw [len]; exact ⟨st.ti, isT⟩) fun h1 eb => ⟨rfl, ?_⟩
    exact I.turned (t' := s.toks) (fun b o n q => eb b o n q) y1.1 y1.2.1 y1.2.2.2.1 y1.2.2.2.2.1 y1.2.2.2.2.2
  self := fun A i s Q E st h => by
    obtain ⟨old, he⟩ := st.ob
    exact wpAny_pyIter_enum he h
def iEnumT (K : PySem.W.Frag) (ta : TA) : TI := fun σ H R => ta σ H fun vs H1 => ∃ a xs, vs = [.ref a] ∧ SqT K H1 a xs ∧ R (IteT K a) H1
theorem pi_enumT {X : Cx} {K : PySem.W.Frag} {e : Expr} {ta : TA} {p pos tpos : Pos} {elts : List Expr} {kk : Nat} (hK : X.K = K) (hg : Gl X "enumerate") (hm : X.mg "enumerate" = none) (ha : PA X [e] ta) (hs : starEach [e] X.env = [(false, eval e X.env)] := by rfl) :
    PI X (.Tuple elts kk tpos) (.Call (.Name "enumerate" p) [e] [] pos) (iEnumT K ta) := by
  subst hK
  constructor
  intro pins s σ H R I wish
  refine Call_ (ld_blt I hg hm boot_enumerate (PyProof.Rows.callWith_type1 (thn (ha.run pos pins s σ H _ I wish) ?_) hs rfl))
  rintro us s1 ⟨vs, H1, I1, rel, a, xs, rfl, sq, q⟩
  cases rel with
  | cons r0 r1 =>
    cases r1
    cases r0
    obtain ⟨us, _, isT, _⟩ := I1.tuple sq
    have inA : a < s1.heap.objs.size := by
      obtain ⟨o, ho, _⟩ := id isT
      exact Heap.lt_size ho
    refine run_enumT (show s1.heap.IsTuple a us.toArray from isT) (wpAny_pyIter_enum (eHeap_ob s1.heap a) ?_)
    have J : Inv X pins σ H1 { s1 with heap := eHeap s1.heap a } := I1.kept (t' := s1.toks) fun b o z => eHeap_keep z
    refine ⟨s1.heap.objs.size + 1, [s1.heap.objs.size + 1, s1.heap.objs.size], _, _, H1, rfl, J, turn_enumT a _ _, ⟨⟨.none, eHeap_ob s1.heap a⟩, ⟨_, eHeap_it s1.heap a, rfl, rfl⟩, Nat.succ_ne_self _, Nat.ne_of_lt inA, Nat.ne_of_lt (Nat.lt_succ_of_lt inA)⟩, fun b m => ?_, q⟩
    have hb : s1.heap.objs.size ≤ b := by
      rcases two m with rfl | rfl
      · exact Nat.le_succ _
      · exact Nat.le_refl _
    exact I1.fpOk hb (I1.hok.fresh hb)
end PDI
namespace PDX
open PySem PySem.Spec L2 PyProof.Rows
/-! ### C() of an exception's class whose __init__ leaves the new object bare -/
section
variable {fs : List Addr} {P : Program} {w : World} {A B : Hp} {h0 h1 h2 G : Heap} {p : Addr} {o : HO}
/-- seen from a smaller heap, without the object at p -/
theorem un_from (u : Un fs [] (upd A p o) B h1 h2) (le : ∀ x v, h0.get? x = some v → h1.get? x = some v) (off : ∀ x v, h0.get? x = some v → x ≠ p) (hp : A p = none) : Un fs [] A B h0 h2 := by
  have same : ∀ {x : Addr}, x ≠ p → upd A p o x = A x := fun z => upd_ne z
  have told : ∀ {x : Addr} {v : HO}, A x = some v → x ≠ p := fun {x v} e z => by rw [z, hp] at e; cases e
  constructor
  · intro x v e n f q
    exact u.keep x v (le x v e) ((same (off x v e)).trans n) f q
  · intro x v e n f q
    exact u.slot x v (le x v e) ((same (off x v e)).trans n) f q
  · intro x v e n q
    exact u.free x v (le x v e) ((same (off x v e)).trans n) q
  · intro x v e q
    exact u.there x v (le x v e) q
  · intro x v e
    exact u.tups x v ((same (told e)).trans e)
  · intro x v y e
    exact u.frzs x v y ((same (told e)).trans e)
  · intro x v e
    exact u.tbls x v ((same (told e)).trans e)
/-- .. and from the heap behind it that lacks it too -/
theorem un_less (u : Un fs [] A B h0 h2) (eq : ∀ x, x ≠ p → G.get? x = h2.get? x) (off : ∀ x v, h0.get? x = some v → x ≠ p) (hp : A p = none) : Un fs [] A (del B p) h0 G := by
  have told : ∀ {x : Addr} {v : HO}, A x = some v → del B p x = B x := fun {x v} e => del_ne fun z => by rw [z, hp] at e; cases e
  constructor
  · intro x v e n f q
    exact (eq x (off x v e)).trans (u.keep x v e n f q)
  · intro x v e n f q
    obtain ⟨l, hl⟩ := u.slot x v e n f q
    exact ⟨l, (eq x (off x v e)).trans hl⟩
  · intro x v e n q
    exact (del_ne (off x v e)).trans (u.free x v e n q)
  · intro x v e q
    obtain ⟨y, hy⟩ := u.there x v e q
    exact ⟨y, (eq x (off x v e)).trans hy⟩
  · intro x v e
    exact (told e).trans (u.tups x v e)
  · intro x v y e
    exact (told e).trans (u.frzs x v y e)
  · intro x v e
    obtain ⟨l, hl⟩ := u.tbls x v e
    exact ⟨l, (told e).trans hl⟩
theorem hok_less {C : Addr} (ok : HOk P w B h2) (ep : B p = some (exo p C none)) (eq : ∀ x, x ≠ p → G.get? x = h2.get? x) : HOk P w (del B p) G := by
  have other : ∀ {x : Addr} {v : HO}, B x = some v → exo p C none ≠ v → x ≠ p := fun {x v} e d z => by
    rw [z, ep] at e
    exact d (Option.some.inj e)
  intro x v e
  by_cases z : x = p
  · subst z
    rw [del_same] at e
    cases e
  · rw [del_ne z] at e
    refine ObjOk.stay (ok x v e) ?_ ?_ ?_
    · rintro y v2 (rfl | hy) q
      · exact (eq _ z).trans q
      · exact (eq _ (other hy exo_own)).trans q
    · intro y hy
      exact (del_ne (other hy exo_own)).trans hy
    · intro y l hy
      exact (del_ne (other hy exo_tup)).trans hy
end
/-- C() -/
def tMk0 (C : Addr) (sp : Sp) : L2.St → Hp → XK → Prop := fun σ H Q => ∀ a, H a = none → sp [.ref a] (upd H a (exo a C none)) (fun v H2 => v = .non ∧ H2 a = some (exo a C none) ∧ Q (.ref C) none (del H2 a)) (fun _ _ _ => False)
section
variable {X : Cx} {pos p : Pos}
/-- what such an __init__ leaves -/
theorem bare_end {pins : List (Addr × Obj)} {σ : L2.St} {H H2 : Hp} {Q : XK} {s s2 : Shared} {hm : Heap} {a C : Addr} (T : OexC X.K C) (I : L2.Inv X pins σ H s) (ha : s.heap.objs.size ≤ a) (le : ∀ x v, s.heap.get? x = some v → hm.get? x = some v)
    (u : Un (frs X.stack) [] (upd H a (exo a C none)) H2 hm s2.heap) (ok : HOk X.prog X.w H2 s2.heap) (os : s2.os = s.os) (bare : AllBare s2.gens) (ea : H2 a = some (exo a C none)) (q : Q (.ref C) none (del H2 a)) : MkP X pins σ Q (.ref a) s2 := by
  have off : ∀ x v, s.heap.get? x = some v → x ≠ a := by
    rintro x v e rfl
    exact absurd (Heap.lt_size e) (Nat.not_lt.mpr ha)
  have na : H a = none := I.hok.fresh ha
  obtain ⟨t, ho⟩ := exo_at ok ea
  obtain ⟨G, same, gone⟩ := restrict s2.heap fun x => !decide (x = a)
  have eq : ∀ x, x ≠ a → G.get? x = s2.heap.get? x := fun x hx => same x (by simp [hx])
  have ga : G.get? a = none := gone a (by simp)
  have J : L2.Inv X pins σ (del H2 a) { s2 with heap := G } := I.call' (ch := []) os (un_less (un_from u le off na) eq off na) (hok_less ok ea eq) bare (by simp)
  refine ⟨a, _, _, { s2 with heap := G }, del H2 a, .ref C, none, rfl, J, fun x v e => ?_, ga, ho, ⟨rfl, rfl⟩, rfl, rfl, del_same, rfl, bare, raises_own T.exC T.tyC, q⟩
  have hx : x ≠ a := fun z => by rw [z, ga] at e; cases e
  exact (eq x hx).symm.trans e
theorem pmk_oe0 {CX : CXT} {x : Str} {C fI : Addr} {k : Nat} {fd : FuncData} {ps : List Str} {sp : Sp} (T : OexC X.K C) (iC : PySem.W.findIn X.K (.ref C) "__init__" = some (some (.ref fI))) (tI : PySem.W.typeIn X.K (.ref fI) = some (.type "function"))
    (F1 : FnOk X.prog X.w X.K X.mg X.base CX k fI fd ps sp) (hr : Room (k + 1) X.A) (hb : Binds X.K fd ps []) (hx : Passes CX X (fun _ _ _ => False)) (hg : Gl X x) (hm : X.mg x = some (.ref C))
    (hdb : (x == ("__debug__" : Str)) = false := by decide) : PMk X (.Call (.Name x p) [] [] pos) (tMk0 C sp) := by
  intro pins s σ H Q I wish
  obtain ⟨_, _, _, _, bm, _, _, _, _, _, _, _, _, _, _, hC, hv⟩ := T.cls
  refine wpAny_Call_Name_kw (ld_glob I hg hm (PySem.W.callWith_K0 I.kIn T.kC ?_) hdb)
  show wpAny _ _ (call (.ref C) []) _ _ _
  -- the two objects that a call lays: the arguments' tuple, the exception
  generalize ea : s.heap.objs.size + 1 = a
  have lo : s.heap.objs.size ≤ a := by omega
  obtain ⟨hm', ehm⟩ : ∃ z : Heap, z = (s.heap.push (PySem.W.kdv_tup [])).push (PySem.HandSPX.excO C s.heap.objs.size) := ⟨_, rfl⟩
  have le : ∀ y v, s.heap.get? y = some v → hm'.get? y = some v := fun y v e => by
    rw [ehm]
    exact Heap.get?_push_of_some _ (Heap.get?_push_of_some _ e)
  have at_ : hm'.get? a = some (PySem.HandSPX.excO C s.heap.objs.size) := by
    rw [ehm, ← ea]
    heap_get
  have W1 := wish a (I.hok.fresh lo)
  have I1 : L2.Inv X pins σ (upd H a (exo a C none)) { s with heap := hm' } := I.laid (t' := s.toks) (h' := hm') le lo (exo_ok at_)
  have n1 := F1.len _ _ _ _ W1
  have call := F1.run _ X.stack _ _ ⟨[Value.ref a], []⟩ [Value.ref a] _ _ (fun _ _ _ => False) (hr.make C [] []) (I1.env0.make C [] []) (hb _ [Value.ref a] I1.kIn (by simpa using n1)) (show Vals [V.ref a] [Value.ref a] from .cons rfl .nil) W1
  subst ehm
  subst ea
  refine wpAny_call (PySem.HandSPX.call_own F.excBase_ValueError (fun Y => PySem.HandSPX.refsVE_contains Y bm hv) (I.kIn _ _ hC) (PySem.W.looks_findIn I.kIn iC) (fun self => PySem.W.bind_fn I.kIn self tI) (Nat.zero_le _) (codeAny_mono call fun out s2 got => ?_))
  rcases out with er | fl
  · exact hx pins σ _ _ er s2 I1 got
  · cases fl <;> first
      | exact got.elim
      | (obtain ⟨v, H2, o2, b2, u2, k2, rv, ev, ee, wq⟩ := got
         subst ev
         exact ⟨rv, bare_end T I lo le u2 k2 o2 b2 ee wq⟩)
end
end PDX
namespace PD
open PySem PySem.Spec PyProof.Rows L2
open RZ (iZipA ItzT)
open PDX PDI
/-! ### defs that may raise -/
abbrev FX := List D → (D → Prop) → (XV → Prop) → Prop
def spX (K : PySem.W.Frag) (F : FX) : Sp := fun vs H Q E => ∃ (W : Wd) (M : Addr → Prop) (ds : List D) (P : D → Prop) (X : XV → Prop), W.K = K ∧ Wf W M H ∧ Reps W M H vs ds ∧ F ds P X ∧
  (∀ v d H', StOk W H' → Keep W H H' → Rep W M H' v d → P d → Q v H') ∧ ∀ cls dx x H', StOk W H' → Keep W H H' → XRep W M H' cls dx x → X x → E cls dx H'
theorem spX_len {K : PySem.W.Frag} {F : FX} {n : Nat} (hF : ∀ ds P X, F ds P X → ds.length = n) (vs : List V) (H : Hp) (Q : VK) (E : XK) (h : spX K F vs H Q E) : vs.length = n := by
  obtain ⟨W, M, ds, P, X, _, _, r, f, _⟩ := h
  rw [r.length]
  exact hF ds P X f
theorem body_ofX {K : PySem.W.Frag} {F : FX} {vs : List V} {H : Hp} {Q : VK} {E : XK} {N : List Str} {t : TS} (h : spX K F vs H Q E)
    (hb : ∀ W ds P X, W.K = K → F ds P X → SX W (fun cls d _ H => E cls d H) t (startD N.length ds) (fun _ => P .non) P (fun _ => False) (fun _ => False) (fun x _ => X x)) : t { nx := fun _ H' => Q .non H', rt := Q } (L2.start N vs) H := by
  obtain ⟨W, M, ds, P, X, e, w, r, f, q, qx⟩ := h
  exact hb W ds P X e f M H M _ H _ ⟨w, start_slots N r⟩ ⟨Keep.refl _, fun _ x => x, fun a x y => absurd x y⟩
    ⟨fun M' σ' δ' H' p' e' x => q .non .non H' p'.wf.g e'.k .non x, fun v d H' g k r' x => q v d H' g k r' x, fun _ _ _ _ _ _ x => x.elim, fun _ _ _ _ _ _ x => x.elim, fun M' σ' δ' H' cls d x p' e' rx hx => qx cls d x H' p'.wf.g e'.k (rx.anti e'.m) hx⟩
/-- a call of a def that may raise, where it does not -/
theorem passF {X : Cx} : Passes (L2.CX X.prog X.w) X (fun _ _ _ => False) := fun _ _ _ _ _ _ _ h => by
  obtain ⟨_, _, _, _, _, _, _, _, _, _, _, _, z⟩ := h
  exact z.elim
theorem ev_callX {W : Wd} {δ : DS} {F : FX} {ta : TA} {P : D → Prop} (h : EvA W ta δ fun ds => F ds P fun _ => False) : EvD W (tCall (spX W.K F) [] (fun _ _ _ => False) ta) δ P := fun M σ H p Q q =>
  h M σ H p _ fun vs ds H1 g1 k1 r1 h1 => ⟨W, M, ds, P, fun _ => False, rfl, p.wf.next g1 k1, by rw [List.append_nil]; exact r1, h1, fun v d H2 g2 k2 r2 h2 => q v d H2 g2 (k1.trans k2) r2 h2, fun _ _ _ _ _ _ _ z => z.elim⟩
section
variable {W : Wd} {Wx : WX} {X : XV → DS → Prop} {δ : DS} {N : DS → Prop} {R : D → Prop} {B C : DS → Prop} {ta : TA} {F : FX}
theorem XRep.keep {M : Addr → Prop} {H H' : Hp} {cls : Value} {d : Option Addr} {x : XV} (w : Wf W M H) (k : Keep W H H') (h : XRep W M H cls d x) : XRep W M H' cls d x := by
  obtain ⟨h1, h2⟩ := h
  refine ⟨h1, ?_⟩
  cases d with
  | none => exact h2
  | some dx =>
    obtain ⟨fs, h6, h3, h5, h4⟩ := h2
    refine ⟨fs, h6, k dx _ (fun e => ?_) h3, h5, h4.keep w k⟩
    obtain ⟨ns, i, c, m, q, _⟩ := w.g dx e
    rw [h3] at q
    cases q
/-- a call that may raise, as a statement -/
theorem callX_core {M0 M : Addr → Prop} {H0 H1 : Hp} {σ : L2.St} {vs : List V} {ds : List D} {E : Ends} {Q : VK} {P : D → Prop} (p : Pre W M δ σ H1) (e : Ent W M0 H0 M H1) (r : Reps W M H1 vs ds) (o : Outs W Wx M0 H0 N R B C X E) (hF : F ds P fun x => X x δ)
    (hQ : ∀ v d H2, StOk W H2 → Keep W H1 H2 → Rep W M H2 v d → P d → Q v H2) : spX W.K F vs H1 Q (WE Wx σ) :=
  ⟨W, M, ds, P, fun x => X x δ, rfl, p.wf, r, hF, hQ, fun cls dx x H2 g2 k2 r2 hx => o.xw M σ δ H2 cls dx x (p.next g2 k2) (e.next k2) r2 hx⟩
theorem sx_drop (h : EvA W ta δ fun ds => F ds (fun _ => N δ) fun x => X x δ) : SX W Wx (tDrop (tCallS (spX W.K F) (WE Wx) ta)) δ N R B C X := fun M0 H0 M σ H E p e o =>
  h M σ H p _ fun vs ds H1 g1 k1 r1 h1 => callX_core (p.next g1 k1) (e.next k1) r1 o h1 fun v d H2 g2 k2 r2 hN => o.nx M σ δ H2 ((p.next g1 k1).next g2 k2) ((e.next k1).next k2) hN
theorem sx_ret (h : EvA W ta δ fun ds => F ds R fun x => X x δ) : SX W Wx (tRet (tCallS (spX W.K F) (WE Wx) ta)) δ N R B C X := fun M0 H0 M σ H E p e o =>
  h M σ H p _ fun vs ds H1 g1 k1 r1 h1 => callX_core (p.next g1 k1) (e.next k1) r1 o h1 fun v d H2 g2 k2 r2 hR => o.rt v d H2 g2 ((e.k.trans k1).trans k2) (r2.anti e.m) hR
theorem sx_asg {i : Nat} (h : EvA W ta δ fun ds => F ds (fun d => N (δ.set i (some d))) fun x => X x δ) : SX W Wx (tAsg (tCallS (spX W.K F) (WE Wx) ta) (gName i)) δ N R B C X := fun M0 H0 M σ H E p e o =>
  h M σ H p _ fun vs ds H1 g1 k1 r1 h1 => callX_core (p.next g1 k1) (e.next k1) r1 o h1 fun v d H2 g2 k2 r2 hN => o.nx M _ _ H2 ⟨(p.wf.next g1 k1).next g2 k2, (((p.next g1 k1).next g2 k2).sl.set i r2)⟩ ((e.next k1).next k2) hN
/-- what an __init__ that stores nothing keeps -/
def spI0 (K : PySem.W.Frag) : Sp := fun vs H Q _ => ∃ a C, vs = [.ref a] ∧ OexC K C ∧ H a = some (exo a C none) ∧ Q .non H
theorem del_upd {H : Hp} {a : Addr} {o : HO} (h : H a = none) : del (upd H a o) a = H := by
  funext b
  unfold del upd
  by_cases e : b = a
  · rw [if_pos e, e, h]
  · rw [if_neg e, if_neg e]
/-- raise C(), C without a field -/
theorem sx_raise0 {C' : Addr} (hC : OexC W.K C') (h : X (C', []) δ) : SX W Wx (fun _ σ H => tMk0 C' (spI0 W.K) σ H fun cls d H' => Wx cls d σ H') δ N R B C X := fun M0 H0 M σ H E p e o => by
  intro a ha
  refine ⟨a, C', rfl, hC, upd_same, rfl, upd_same, ?_⟩
  rw [del_upd ha]
  exact o.xw M σ δ H _ none (C', []) p e ⟨rfl, rfl⟩ h
/-- what an __init__ that stores its one argument keeps -/
def spI1 (K : PySem.W.Frag) (f : Str) : Sp := fun vs H Q _ => ∃ a C y, vs = [.ref a, y] ∧ OexC K C ∧ PySem.W.findIn K (.ref C) f = some none ∧ H a = some (exo a C none) ∧
  ∀ dx, H dx = none → dx ≠ a → Q .non (upd (upd H dx (exd dx [(f, y)])) a (exo a C (some dx)))
/-- raise C(e), C's one field f -/
theorem sx_raise1 {C' : Addr} {f : Str} {ta : TA} (hC : OexC W.K C') (hf : PySem.W.findIn W.K (.ref C') f = some none) (h : EvA W ta δ fun ds => ∃ d, ds = [d] ∧ X (C', [(f, d)]) δ) : SX W Wx (fun _ σ H => tMkO C' (spI1 W.K f) [] ta σ H fun cls d H' => Wx cls d σ H') δ N R B C X := fun M0 H0 M σ H E p e o =>
  h M σ H p _ fun vs ds H1 g1 k1 r1 h1 => by
    obtain ⟨d, rfl, hX⟩ := h1
    cases r1 with
    | @cons v vs d ds r1 r2 =>
      cases r2
      refine ⟨by show 1 ≤ 1000; decide, fun a ha => ⟨a, C', v, rfl, hC, hf, upd_same, fun dx hdx hne => ⟨rfl, dx, [(f, v)], upd_same, ?_, ?_, ?_⟩⟩⟩
      · rw [upd_ne hne, upd_same]
      · rw [upd_ne hne] at hdx
        exact hdx
      · have hd1 : H1 dx = none := by
          rw [upd_ne hne] at hdx
          exact hdx
        have eH : upd (del (upd (upd (upd H1 a (exo a C' none)) dx (exd dx [(f, v)])) a (exo a C' (some dx))) a) dx (.xd [(f, v)]) = upd H1 dx (.xd [(f, v)]) := by
          funext b
          by_cases e1 : b = dx
          · subst e1
            simp [del, upd]
          · by_cases e2 : b = a
            · subst e2
              simp [del, upd, e1, ha]
            · simp [del, upd, e1, e2]
        rw [eH]
        have kn : Keep W H1 (upd H1 dx (.xd [(f, v)])) := Keep.new hd1
        have gn : StOk W (upd H1 dx (.xd [(f, v)])) := g1.new hd1
        have p1 := p.next g1 k1
        exact o.xw M σ δ _ _ (some dx) (C', [(f, d)]) (p1.next gn kn) ((e.next k1).next kn) ⟨rfl, _, fun m => (by obtain ⟨o, ho⟩ := p1.wf.dom dx m; rw [hd1] at ho; cases ho), upd_same, rfl, .cons (r1.keep p1.wf kn) .nil⟩ hX
/-! ### try, several clauses without a name -/
/-- what the clauses make of an exception, by data: its class decides -/
def CatchD (W : Wd) (K : PySem.W.Frag) (Wout : WX) (l : List (Value × (Addr → Value → Option Addr → TS))) (x : XV) (δ : DS) (N : DS → Prop) (R : D → Prop) (B C : DS → Prop) : Prop :=
  match l with
  | [] => False
  | (c, ts) :: r => ∃ b, PySem.W.exmOne K (.ref x.1) c = some b ∧ (b = true → ∀ a cls d, SX W Wout (ts a cls d) δ N R B C XN) ∧ (b = false → CatchD W K Wout r x δ N R B C)
theorem catch_ok {Wout : WX} : ∀ {l : List (Value × (Addr → Value → Option Addr → TS))} {x : XV} {cls : Value} {d : Option Addr} {M0 M : Addr → Prop} {H0 H : Hp} {σ : L2.St} {E : Ends}, CatchD W W.K Wout l x δ N R B C → cls = .ref x.1 → Pre W M δ σ H → Ent W M0 H0 M H →
    Outs W Wout M0 H0 N R B C XN E → wMany W.K Wout E l cls d σ H
  | [], _, _, _, _, _, _, _, _, _, h, _, _, _, _ => h.elim
  | (c, ts) :: r, x, cls, d, M0, M, H0, H, σ, E, h, e, p, en, o => by
    obtain ⟨b, h1, h2, h3⟩ := h
    subst e
    exact ⟨b, h1, fun hb a _ => h2 hb a _ d M0 H0 M σ H E p en o, fun hb => catch_ok (h3 hb) rfl p en o⟩
theorem sx_try {tb : WX → TS} {Wout : WX} {l : List (Value × (Addr → Value → Option Addr → TS))} {Xb : XV → DS → Prop} (hb : ∀ Wx, SX W Wx (tb Wx) δ N R B C Xb) (hc : ∀ x δ', Xb x δ' → CatchD W W.K Wout l x δ' N R B C) :
    SX W Wout (fun D σ H => tb (wMany W.K Wout D l) D σ H) δ N R B C XN := fun M0 H0 M σ H E p e o =>
  hb (wMany W.K Wout E l) M0 H0 M σ H E p e ⟨o.nx, o.rt, o.bk, o.ct, fun M' σ' δ' H' cls d x p' e' rx hx => catch_ok (hc x δ' hx) rx.1 p' e' ⟨o.nx, o.rt, o.bk, o.ct, fun _ _ _ _ _ _ _ _ _ _ z => z.elim⟩⟩
end
end PD
namespace PD
open PySem PySem.Spec PyProof.Rows L2
open RZ (iZipA ItzT)
open PDX PDI
/-! ### enumerate -/
def enumD (ds : List D) : List D := List.zipWith (fun (i : Nat) d => D.tup [.int i, d]) (List.range ds.length) ds
theorem enumD_length (ds : List D) : (enumD ds).length = ds.length := by
  unfold enumD
  rw [List.length_zipWith, List.length_range]
  omega
theorem enumD_get {ds : List D} {i : Nat} {d : D} (h : (enumD ds)[i]? = some d) : ∃ x, ds[i]? = some x ∧ d = .tup [.int i, x] := by
  have hl := (List.getElem?_eq_some_iff.mp h).1
  rw [enumD_length] at hl
  unfold enumD at h
  rw [List.getElem?_zipWith, List.getElem?_range hl, List.getElem?_eq_getElem hl] at h
  exact ⟨_, List.getElem?_eq_getElem hl, (Option.some.inj h).symm⟩
section
variable {W : Wd} {δ : DS} {ta : TA}
theorem src_enumT {M : Addr → Prop} {H1 : Hp} {a : Addr} {vs : List V} {ds : List D} (w : Wf W M H1) (hs : SqT W.K H1 a vs) (hr : Reps W M H1 vs ds) : Src W M (IteT W.K a) H1 (enumD ds) := fun M' hm hn i H2 k g => by
  have wg : Wg W M' H1 := ⟨w.g, fun b e => hm b (w.sm b e)⟩
  have wg2 : Wg W M' H2 := ⟨g, fun b e => hm b (w.sm b e)⟩
  have hs2 := sqT_keepM wg (k.mono hm) hs
  have hr2 : Reps W M' H2 vs ds := (hr.more hn).keepM wg (k.mono hm)
  refine ⟨fun hl => ⟨vs, hs2, by rw [hr2.length, hl, enumD_length]⟩, fun d hd => ?_⟩
  obtain ⟨x, hx, rfl⟩ := enumD_get hd
  obtain ⟨v, hv, rv⟩ := hr2.get hx
  refine ⟨⟨vs, v, hs2, hv⟩, fun z H3 yy => ?_⟩
  obtain ⟨T, x1, rfl, hT, rfl, f1⟩ := yy
  have e1 := f1 vs hs2
  rw [hv] at e1
  cases e1
  have kn : Keep W H2 (upd H2 T (.tup [.int (i : Nat), v])) := Keep.new hT
  exact ⟨g.new hT, kn, .tup (SqT.of upd_same) (.cons (.int _) (.cons (rv.keepG wg2 kn) .nil))⟩
theorem it_enumT {P : List D → Prop} (h : EvA W ta δ fun xs => ∃ ds, xs = [.tup ds] ∧ P (enumD ds)) : IterD W (iEnumT W.K ta) δ P := fun M σ H p R q => h M σ H p _ fun vs ds H1 g1 k1 r1 h1 => by
  obtain ⟨ds, rfl, hP⟩ := h1
  cases r1 with
  | cons r1 r2 =>
    cases r2
    cases r1 with
    | tup hs hr => exact ⟨_, _, rfl, hs, q _ H1 _ g1 k1 hP (src_enumT (p.wf.next g1 k1) hs hr)⟩
end
/-! ### objects: their fields read -/
theorem lookup_D {W : Wd} {M : Addr → Prop} {H : Hp} {f : Str} : ∀ {fs : List (Str × V)} {ds : List D} {d : D}, Reps W M H (fs.map (·.2)) ds → ((fs.map (·.1)).zip ds).lookup f = some d → ∃ v, fs.lookup f = some v ∧ Rep W M H v d
  | [], ds, d, _, h => by simp at h
  | (g, v) :: fs, ds, d, r, h => by
    cases r with
    | @cons _ _ d0 ds0 r1 r2 =>
      rw [List.map_cons, List.zip_cons_cons, List.lookup_cons] at h
      rw [List.lookup_cons]
      cases hb : f == g with
      | true =>
        rw [hb] at h
        cases h
        exact ⟨v, rfl, r1⟩
      | false =>
        rw [hb] at h
        exact lookup_D r2 h
theorem ev_fld {W : Wd} {δ : DS} {te : TE} {f : Str} {P : D → Prop} (h : EvD W te δ fun x => ∃ C ns ds d, x = .ins C ns ds ∧ Cls W.K C ∧ NoAttr W.K C f ∧ (ns.zip ds).lookup f = some d ∧ P d) : EvD W (tFld W.K te f) δ P := fun M σ H p Q q =>
  h M σ H p _ fun v x H1 g1 k1 r1 h1 => by
    obtain ⟨C, ns, ds, d, rfl, hC, hn, hl, hP⟩ := h1
    cases r1 with
    | ins nM ha e r =>
      subst e
      obtain ⟨v, h2, h3⟩ := lookup_D r hl
      exact ⟨_, C, _, _, v, rfl, ha, hC, hn, h2, q v d H1 g1 k1 h3 hP⟩
theorem pe_fldK {X : Cx} {K : PySem.W.Frag} {e : Expr} {te : TE} {f : Str} {pos : Pos} (hK : X.K = K) (he : PE X e te) (hb : attributeBase e f X.env (eval e X.env) = eval e X.env) : PE X (.Attribute e f pos) (tFld K te f) := by
  subst hK
  exact pe_fld he hb
/-! ### objects made -/
abbrev FI := Addr → List D → (List Str → List D → Prop) → (XV → Prop) → Prop
/-- what a class's __init__ keeps: the new object (at x, its dict at dx) gets its fields, the rest stands -/
def spInit (K : PySem.W.Frag) (F : FI) : Sp := fun vs H Q E => ∃ (W : Wd) (M : Addr → Prop) (x dx C : Addr) (ws : List V) (ds : List D) (P : List Str → List D → Prop) (X : XV → Prop), vs = .ref x :: ws ∧ W.K = K ∧ Wf W M H ∧ M x ∧ W.s ≠ some x ∧
  H x = some (.ins C dx []) ∧ Reps W M H ws ds ∧ F C ds P X ∧
  (∀ H' fs es, StOk W H' → (∀ a o, a ≠ x → W.s ≠ some a → H a = some o → H' a = some o) → H' x = some (.ins C dx fs) → Reps W M H' (fs.map (·.2)) es → P (fs.map (·.1)) es → Q .non H') ∧
  ∀ cls d y H', StOk W H' → (∀ a o, a ≠ x → W.s ≠ some a → H a = some o → H' a = some o) → XRep W M H' cls d y → X y → E cls d H'
theorem spInit_len {K : PySem.W.Frag} {F : FI} {n : Nat} (hF : ∀ C ds P X, F C ds P X → ds.length + 1 = n) (vs : List V) (H : Hp) (Q : VK) (E : XK) (h : spInit K F vs H Q E) : vs.length = n := by
  obtain ⟨W, M, x, dx, C, ws, ds, P, X, rfl, _, _, _, _, _, r, f, _⟩ := h
  show ws.length + 1 = n
  rw [r.length]
  exact hF C ds P X f
theorem make_core {W : Wd} {F : FI} {M : Addr → Prop} {H1 : Hp} {vs : List V} {ds : List D} {C : Addr} {Q : VK} {E : XK} {P : D → Prop} {X : XV → Prop} (w : Wf W M H1) (r : Reps W M H1 vs ds) (hF : F C ds (fun ns es => P (.ins C ns es)) X)
    (q : ∀ v d H', StOk W H' → Keep W H1 H' → Rep W M H' v d → P d → Q v H') (qx : ∀ cls d y H', StOk W H' → Keep W H1 H' → XRep W M H' cls d y → X y → E cls d H') :
    ∀ x dx, H1 x = none → H1 dx = none → dx ≠ x → spInit W.K F (.ref x :: (vs ++ [])) (upd (upd H1 dx (.own x)) x (.ins C dx [])) (fun v H2 => v = .non ∧ Q (.ref x) H2) E := fun x dx hx hd hne => by
  have kn : Keep W H1 (upd (upd H1 dx (.own x)) x (.ins C dx [])) := (Keep.new hd).trans (Keep.new (by rw [upd_ne hne.symm]; exact hx))
  have gn : StOk W (upd (upd H1 dx (.own x)) x (.ins C dx [])) := (w.g.new hd).new (by rw [upd_ne hne.symm]; exact hx)
  have nM : ¬ M x := fun m => by
    obtain ⟨o, ho⟩ := w.dom x m
    rw [hx] at ho
    cases ho
  have ns : W.s ≠ some x := fun e => nM (w.sm x e)
  have hm : ∀ a, M a → M a ∨ a = x := fun a m => .inl m
  have wn : Wf W (fun a => M a ∨ a = x) (upd (upd H1 dx (.own x)) x (.ins C dx [])) := ⟨gn, fun a e => .inl (w.sm a e), fun a m => by
    rcases m with m | m
    · exact (w.next gn kn).dom a m
    · subst m
      exact ⟨_, upd_same⟩⟩
  have rn : Reps W (fun a => M a ∨ a = x) (upd (upd H1 dx (.own x)) x (.ins C dx [])) vs ds := (r.more fun a m n => by
    rcases m with m | m
    · exact absurd m n
    · subst m
      exact hx).keepG ⟨w.g, fun a e => .inl (w.sm a e)⟩ kn
  refine ⟨W, fun a => M a ∨ a = x, x, dx, C, vs, ds, _, X, by rw [List.append_nil], rfl, wn, .inr rfl, ns, upd_same, rn, hF, fun H' fs es g' k' hx' re hP => ⟨rfl, ?_⟩, fun cls d y H' g' k' rx hX => qx cls d y H' g' (fun a o na ho => k' a o (ne_of_none ho hx) na (kn a o na ho)) (rx.anti hm) hX⟩
  have kk : Keep W H1 H' := fun a o na ho => k' a o (ne_of_none ho hx) na (kn a o na ho)
  exact q (.ref x) _ H' g' kk (.ins nM hx' rfl (re.anti hm)) hP
theorem ev_make {W : Wd} {δ : DS} {F : FI} {C : Addr} {ta : TA} {P : D → Prop} (h : EvA W ta δ fun ds => F C ds (fun ns es => P (.ins C ns es)) fun _ => False) : EvD W (tMake C (spInit W.K F) [] (fun _ _ _ => False) ta) δ P := fun M σ H p Q q =>
  h M σ H p _ fun vs ds H1 g1 k1 r1 h1 => make_core (p.wf.next g1 k1) r1 h1 (fun v d H2 g2 k2 r2 h2 => q v d H2 g2 (k1.trans k2) r2 h2) fun _ _ _ _ _ _ _ z => z.elim
/-- the last rows of an __init__: self.f = a; self.g = b -/
theorem init_body2 {K : PySem.W.Frag} {F : FI} {vs : List V} {H : Hp} {Q : VK} {E : XK} {N : List Str} {t1 t2 : TS} {f g : Str} {i j : Nat} (h : spInit K F vs H Q E) (hfg : f ≠ g)
    (hb : ∀ W C (x : Addr) ds P X, W.K = K → F C ds P X → Cls K C ∧ NoAttr K C f ∧ NoAttr K C g ∧ SX W (fun cls d _ H => E cls d H) (tSeq t1 t2) (startD N.length (.obj x :: ds)) (fun δ => ∃ y z, δ[0]? = some (some (.obj x)) ∧ δ[i]? = some (some y) ∧ δ[j]? = some (some z) ∧ P [f, g] [y, z]) (fun _ => False) (fun _ => False) (fun _ => False) (fun y _ => X y)) :
    tSeq t1 (tSeq t2 (tSeq (sFld K (tVar 0) (tVar i) f) (sFld K (tVar 0) (tVar j) g))) { nx := fun _ H' => Q .non H', rt := Q } (L2.start N vs) H := by
  obtain ⟨W, M, x, dx, C, ws, ds, P, X, rfl, e, w, mx, ns, hx, r, hF, q, qx⟩ := h
  obtain ⟨c1, c2, c3, hS⟩ := hb W C x ds P X e hF
  subst e
  have r0 : Reps W M H (.ref x :: ws) (.obj x :: ds) := .cons (.obj x) r
  refine hS M H M _ H { nx := tSeq (sFld W.K (tVar 0) (tVar i) f) (sFld W.K (tVar 0) (tVar j) g) { nx := fun _ H' => Q .non H', rt := Q }, rt := Q } ⟨w, start_slots N r0⟩ ⟨Keep.refl _, fun _ z => z, fun a z y => absurd z y⟩
    ⟨fun M' σ δ H' p' e' hN => ?_, fun _ _ _ _ _ _ z => z.elim, fun _ _ _ _ _ _ z => z.elim, fun _ _ _ _ _ _ z => z.elim, fun M' σ' δ' H' cls d y p' e' rx hX => qx cls d y H' p'.wf.g (fun a o _ ns ho => e'.k a o ns ho) (rx.anti e'.m) hX⟩
  obtain ⟨y, z, h0, hi, hj, hP⟩ := hN
  obtain ⟨v0, s0, q0⟩ := p'.sl.get 0 _ h0
  cases q0
  obtain ⟨v1, s1, q1⟩ := p'.sl.get i _ hi
  obtain ⟨v2, s2, q2⟩ := p'.sl.get j _ hj
  have hx' := e'.k x _ ns hx
  refine ⟨v1, s1, _, s0, x, C, dx, [], rfl, hx', c1, c2, by decide, ?_⟩
  refine ⟨v2, s2, _, s0, x, C, dx, [(f, v1)], rfl, upd_same, c1, c3, by show 1 < 1000; decide, ?_⟩
  have ep : putF g v2 [(f, v1)] = [(f, v1), (g, v2)] := by
    show (if f = g then _ else (f, v1) :: putF g v2 []) = _
    rw [if_neg hfg]
    rfl
  show Q .non (upd (upd H' x (.ins C dx (putF f v1 []))) x (.ins C dx (putF g v2 [(f, v1)])))
  rw [upd_upd, ep]
  have hM : M' x := e'.m x mx
  have isL : ∀ s, W.s = some s → s ≠ x := fun s hs e => ns (by rw [hs, e])
  have gg : StOk W (upd H' x (.ins C dx [(f, v1), (g, v2)])) := fun s hs => by
    obtain ⟨n1, i1, c1, m1, a1, a2, a3, a4⟩ := p'.wf.g s hs
    refine ⟨n1, i1, c1, m1, by rw [upd_ne (isL s hs)]; exact a1, a2, ?_, a4⟩
    rw [upd_ne (ne_of a3 hx' (by intro z; cases z))]
    exact a3
  have up : ∀ {v : V} {d : D}, Rep W M' H' v d → Rep W M' (upd H' x (.ins C dx [(f, v1), (g, v2)])) v d := fun r => r.upd (rdT_ins hx') hM
  exact q _ [(f, v1), (g, v2)] [y, z] gg (fun a o na nsa ho => by rw [upd_ne na]; exact e'.k a o nsa ho) upd_same ((Reps.cons (up q1) (.cons (up q2) .nil)).anti e'.m) hP
/-- the last rows of an __init__ of three fields, the third of which comes of a call that may raise -/
theorem init_body3 {K : PySem.W.Frag} {F : FI} {G : FX} {vs : List V} {H : Hp} {Q : VK} {E : XK} {N : List Str} {t1 t2 : TS} {ta : TA} {f g k : Str} {i j : Nat} (h : spInit K F vs H Q E) (hfg : f ≠ g) (hfk : f ≠ k) (hgk : g ≠ k)
    (hb : ∀ W C (x : Addr) ds P X, W.K = K → F C ds P X → Cls K C ∧ NoAttr K C f ∧ NoAttr K C g ∧ NoAttr K C k ∧ SX W (fun cls d _ H => E cls d H) (tSeq t1 t2) (startD N.length (.obj x :: ds)) (fun δ => ∃ y z, δ[0]? = some (some (.obj x)) ∧ δ[i]? = some (some y) ∧ δ[j]? = some (some z) ∧
      EvA W ta δ fun ds => G ds (fun d => P [f, g, k] [y, z, d]) X) (fun _ => False) (fun _ => False) (fun _ => False) (fun x _ => X x)) :
    tSeq t1 (tSeq t2 (tSeq (sFld K (tVar 0) (tVar i) f) (tSeq (sFld K (tVar 0) (tVar j) g) (sFld K (tVar 0) (tCallS (spX K G) (WE fun cls d _ H => E cls d H) ta) k)))) { nx := fun _ H' => Q .non H', rt := Q } (L2.start N vs) H := by
  obtain ⟨W, M, x, dx, C, ws, ds, P, X, rfl, e, w, mx, ns, hx, r, hF, q, qx⟩ := h
  obtain ⟨c1, c2, c3, c4, hS⟩ := hb W C x ds P X e hF
  subst e
  have r0 : Reps W M H (.ref x :: ws) (.obj x :: ds) := .cons (.obj x) r
  refine hS M H M _ H { nx := tSeq (sFld W.K (tVar 0) (tVar i) f) (tSeq (sFld W.K (tVar 0) (tVar j) g) (sFld W.K (tVar 0) (tCallS (spX W.K G) (WE fun cls d _ H => E cls d H) ta) k)) { nx := fun _ H' => Q .non H', rt := Q }, rt := Q } ⟨w, start_slots N r0⟩ ⟨Keep.refl _, fun _ z => z, fun a z y => absurd z y⟩
    ⟨fun M' σ δ H' p' e' hN => ?_, fun _ _ _ _ _ _ z => z.elim, fun _ _ _ _ _ _ z => z.elim, fun _ _ _ _ _ _ z => z.elim, fun M' σ' δ' H' cls d y p' e' rx hX => qx cls d y H' p'.wf.g (fun a o _ ns ho => e'.k a o ns ho) (rx.anti e'.m) hX⟩
  obtain ⟨y, z, h0, hi, hj, hE⟩ := hN
  obtain ⟨v0, s0, q0⟩ := p'.sl.get 0 _ h0
  cases q0
  obtain ⟨v1, s1, q1⟩ := p'.sl.get i _ hi
  obtain ⟨v2, s2, q2⟩ := p'.sl.get j _ hj
  have hx' := e'.k x _ ns hx
  refine ⟨v1, s1, _, s0, x, C, dx, [], rfl, hx', c1, c2, by decide, ?_⟩
  refine ⟨v2, s2, _, s0, x, C, dx, [(f, v1)], rfl, upd_same, c1, c3, by show 1 < 1000; decide, ?_⟩
  have ep : putF g v2 [(f, v1)] = [(f, v1), (g, v2)] := by
    show (if f = g then _ else (f, v1) :: putF g v2 []) = _
    rw [if_neg hfg]
    rfl
  show tCallS (spX W.K G) (WE fun cls d _ H => E cls d H) ta σ (upd (upd H' x (.ins C dx (putF f v1 []))) x (.ins C dx (putF g v2 [(f, v1)]))) _
  rw [upd_upd, ep]
  have hM : M' x := e'.m x mx
  have isL : ∀ s, W.s = some s → s ≠ x := fun s hs e => ns (by rw [hs, e])
  have stay : ∀ {fs : List (Str × V)} {Hq : Hp} {gs : List (Str × V)}, StOk W Hq → Hq x = some (.ins C dx gs) → StOk W (upd Hq x (.ins C dx fs)) := fun {fs Hq gs} go hq s hs => by
    obtain ⟨n1, i1, c1, m1, a1, a2, a3, a4⟩ := go s hs
    refine ⟨n1, i1, c1, m1, by rw [upd_ne (isL s hs)]; exact a1, a2, ?_, a4⟩
    rw [upd_ne (ne_of a3 hq (by intro z; cases z))]
    exact a3
  have up : ∀ {fs : List (Str × V)} {Hq : Hp} {gs : List (Str × V)} {v : V} {d : D}, Hq x = some (.ins C dx gs) → Rep W M' Hq v d → Rep W M' (upd Hq x (.ins C dx fs)) v d := fun hq r => r.upd (rdT_ins hq) hM
  have hat : upd H' x (.ins C dx [(f, v1), (g, v2)]) x = some (.ins C dx [(f, v1), (g, v2)]) := upd_same
  have p2 : Pre W M' δ σ (upd H' x (.ins C dx [(f, v1), (g, v2)])) := ⟨⟨stay p'.wf.g hx', p'.wf.sm, fun a ha => by
    by_cases e : a = x
    · exact ⟨_, by rw [e]; exact hat⟩
    · obtain ⟨o, ho⟩ := p'.wf.dom a ha
      exact ⟨o, by rw [upd_ne e]; exact ho⟩⟩, p'.sl.len, fun jj d hd => by
    obtain ⟨v, a1, a2⟩ := p'.sl.get jj d hd
    exact ⟨v, a1, up hx' a2⟩⟩
  refine hE M' σ _ p2 _ fun vs3 ds3 H3 g3 k3 r3 h3 => ⟨W, M', ds3, _, X, rfl, ⟨g3, p2.wf.sm, fun a ha => (p2.wf.next g3 k3).dom a ha⟩, r3, h3, fun v3 d3 H4 g4 k4 r4 hP => ?_, fun cls d y H4 g4 k4 rx hX => ?_⟩
  · have k34 := k3.trans k4
    have hx4 : H4 x = some (.ins C dx [(f, v1), (g, v2)]) := k34 x _ ns hat
    refine ⟨_, s0, x, C, dx, _, rfl, hx4, c1, c4, by show 2 < 1000; decide, ?_⟩
    have ek : putF k v3 [(f, v1), (g, v2)] = [(f, v1), (g, v2), (k, v3)] := by
      show (if f = k then _ else (f, v1) :: (if g = k then _ else (g, v2) :: putF k v3 [])) = _
      rw [if_neg hfk, if_neg hgk]
      rfl
    rw [ek]
    have w4 := (p2.wf.next g3 k3).next g4 k4
    have old : ∀ {v : V} {d : D}, Rep W M' H' v d → Rep W M' (upd H4 x (.ins C dx [(f, v1), (g, v2), (k, v3)])) v d := fun r => up hx4 (((up hx' r).keep p2.wf k3).keep (p2.wf.next g3 k3) k4)
    refine q _ [(f, v1), (g, v2), (k, v3)] [y, z, d3] (stay g4 hx4) (fun a o na nsa ho => ?_) upd_same ((Reps.cons (old q1) (.cons (old q2) (.cons (up hx4 r4) .nil))).anti e'.m) hP
    rw [upd_ne na]
    exact k34 a o nsa (by rw [upd_ne na]; exact e'.k a o nsa ho)
  · refine qx cls d y H4 g4 (fun a o na nsa ho => ?_) (rx.anti e'.m) hX
    exact (k3.trans k4) a o nsa (by rw [upd_ne na]; exact e'.k a o nsa ho)
end PD
namespace PD
open PySem PySem.Spec PyProof.Rows L2
open RZ (iZipA ItzT)
open PDX PDI
/-! ### a module's classes -/
def clsBody : Stmt → List Stmt
  | .ClassDef _ _ _ b _ _ _ _ _ _ _ => b
  | _ => []
def mthS (s : Stmt) (j : Nat) : Stmt := (clsBody s).getD j (.Pass ⟨0, 0, 0, 0⟩)
/-- a class's own def -/
structure DefM (K : PySem.W.Frag) (x qual : Str) (st : Stmt) (ps : List Str) where
  f : Addr
  d : FuncData
  F : L2.Fun K x qual st f d
  b : Binds K d ps []
/-- an exception class that stands under its name -/
structure ExcT (K : PySem.W.Frag) (mg : Str → Option Value) (x : Str) (fI : Addr) where
  C : Addr
  g : mg x = some (.ref C)
  o : OexC K C
  i : PySem.W.findIn K (.ref C) "__init__" = some (some (.ref fI))
/-- an instance's class: what isinstance asks -/
structure OCls (K : PySem.W.Frag) (C : Addr) : Prop where
  cl : Cls K C
  ha : PySem.W.findIn K (.ref C) "__class__" = some (some (.builtin "object.__class__"))
  hn : PySem.W.specialIn K (.builtin "object.__class__") "__get__" = some (some (.builtin "getset_descriptor.__get__"))
  ht : PySem.W.takesIn K (.builtin "object.__class__") = some true
  hm : PySem.W.mroIn K C (.type "object") = some true
  kI : PySem.W.kitOne K (.ref C) (.type "int") = some false
  kB : PySem.W.kitOne K (.ref C) (.type "bool") = some false
  kT : PySem.W.kitOne K (.ref C) (.type "tuple") = some false
  kS : PySem.W.kitOne K (.ref C) (.type "str") = some false
/-- a class whose objects are made -/
structure ClsT (K : PySem.W.Frag) (mg : Str → Option Value) (x : Str) (fI : Addr) where
  C : Addr
  g : mg x = some (.ref C)
  m : Mk K C fI
  o : OCls K C
/-! ### judged data -/
mutual
def Jd (K : PySem.W.Frag) : D → Prop
  | .ins C _ _ => OCls K C
  | .tup xs => JdA K xs
  | .lst xs => JdA K xs
  | .ty _ => False
  | .st => False
  | .obj _ => False
  | .exc _ _ _ _ => False
  | .xob _ _ _ => False
  | .rng _ => False
  | _ => True
def JdA (K : PySem.W.Frag) : List D → Prop
  | [] => True
  | x :: xs => Jd K x ∧ JdA K xs
end
def Jd1 (K : PySem.W.Frag) : D → Prop
  | .ins C _ _ => OCls K C
  | x => x.tyName.isSome = true
theorem jd_ty {K : PySem.W.Frag} {x : D} (h : Jd K x) : Jd1 K x := by
  cases x <;> first | rfl | (simp only [Jd] at h; done) | (simp only [Jd] at h; exact h)
theorem jd_mem {K : PySem.W.Frag} {xs : List D} (h : JdA K xs) {x : D} (hx : x ∈ xs) : Jd K x := by
  induction xs with
  | nil => cases hx
  | cons y ys ih =>
    simp only [JdA] at h
    rcases List.mem_cons.mp hx with rfl | hx
    · exact h.1
    · exact ih h.2 hx
theorem jdA_of {K : PySem.W.Frag} {xs : List D} (h : ∀ x ∈ xs, Jd K x) : JdA K xs := by
  induction xs with
  | nil => simp only [JdA]
  | cons y ys ih =>
    simp only [JdA]
    exact ⟨h y List.mem_cons_self, ih fun x hx => h x (List.mem_cons_of_mem _ hx)⟩
section
variable {W : Wd} {δ : DS} {P : D → Prop} {ta : TA}
theorem tyxO {M : Addr → Prop} {H : Hp} {v : V} {C : Addr} {ns : List Str} {ds : List D} (o : OCls W.K C) (r : Rep W M H v (.ins C ns ds)) : TyX W.K H v (.ref C) := by
  cases r with
  | ins n e _ _ => exact .base (.ins e o.cl o.ha o.hn o.ht o.hm)
theorem rc_isiO {C : Addr} {ns : List Str} {ds : List D} {n : String} (o : OCls W.K C) (hk : PySem.W.kitOne W.K (.ref C) (.type n) = some false) (h : P (.bl false)) : RCD W (rIsi W.K) [.ins C ns ds, .ty n] P := fun M H vs w r Q q => by
  cases r with
  | cons r1 r2 =>
    cases r2 with
    | cons r2 r3 =>
      cases r3
      cases r2
      exact ⟨_, _, _, _, false, rfl, .ty n, tyxO o r1, hk, q _ _ H w.g (Keep.refl H) (.bl false) h⟩
theorem rc_isiIJ {x : D} (hx : Jd1 W.K x) (h : P (.bl (x.isInt || x.isBl))) : RCD W (rIsi W.K) [x, .ty "int"] P := by
  cases x with
  | ins C ns ds => exact rc_isiO hx hx.kI h
  | _ => exact rc_isiI hx h
theorem rc_isiBJ {x : D} (hx : Jd1 W.K x) (h : P (.bl x.isBl)) : RCD W (rIsi W.K) [x, .ty "bool"] P := by
  cases x with
  | ins C ns ds => exact rc_isiO hx hx.kB h
  | _ => exact rc_isiB hx h
theorem rc_isiTJ {x : D} (hx : Jd1 W.K x) (h : P (.bl x.isTup)) : RCD W (rIsi W.K) [x, .ty "tuple"] P := by
  cases x with
  | ins C ns ds => exact rc_isiO hx hx.kT h
  | _ => exact rc_isiT hx h
/-! ### dicts laid -/
theorem newU {M : Addr → Prop} {H : Hp} {p : Addr} {kvs : List (Key × V)} (w : Wf W M H) (hp : H p = none) : StOk W (upd H p (.dK kvs)) ∧ Keep W H (upd H p (.dK kvs)) ∧ Rep W M (upd H p (.dK kvs)) (.ref p) .dct :=
  ⟨w.g.new hp, Keep.new hp, .dct (fun m => by
    obtain ⟨o, ho⟩ := w.dom p m
    rw [hp] at ho
    cases ho) upd_same⟩
theorem ev_dnew (h : P .dct) : EvD W tDNewK δ P := fun M σ H p Q q a ha => by
  obtain ⟨x1, x2, x3⟩ := newU (kvs := []) p.wf ha
  exact q _ _ _ x1 x2 x3 h
theorem ev_disp1 {i j : Int} (h : P .dct) : EvD W (tDisp [(tC (.int i), tC (.int j))]) δ P := fun M σ H p Q q a ha => by
  refine ⟨upd_same, [(.inl i, .int j)], rfl, by show 1 ≤ 15; decide, ?_⟩
  rw [upd_upd]
  obtain ⟨x1, x2, x3⟩ := newU (kvs := mergeK [] [(.inl i, .int j)]) p.wf ha
  exact q _ _ _ x1 x2 x3 h
/-! ### tuples: slices, times a number -/
theorem op_repTK {X : Cx} {K : PySem.W.Frag} (h : X.K = K) : OpR X (binaryOp .Mult) (rRepT K) := by subst h; exact op_repT
theorem reps_flat {M : Addr → Prop} {H : Hp} {vs : List V} {ds : List D} (r : Reps W M H vs ds) : ∀ n : Nat, Reps W M H (List.replicate n vs).flatten (List.replicate n ds).flatten
  | 0 => .nil
  | n + 1 => by
    rw [List.replicate_succ, List.replicate_succ, List.flatten_cons, List.flatten_cons]
    exact r.append (reps_flat r n)
theorem rd_repT {xs : List D} {k : Int} (hne : xs ≠ []) (h2 : 2 ≤ k) (hk : k ≤ 1000) (hl : xs.length ≤ 1000) (h : P (.tup (List.replicate k.toNat xs).flatten)) : RD W (rRepT W.K) (.tup xs) (.int k) P := fun M H v u w r1 r2 Q q => by
  cases r2
  cases r1 with
  | @tup a vs ds hs hr =>
    refine ⟨a, k, vs, rfl, rfl, hs, fun e => hne ?_, h2, hk, by rw [hr.length]; exact hl, fun p hp => ?_⟩
    · subst e
      cases hr
      rfl
    · obtain ⟨x1, x2, x3⟩ := newT w (reps_flat hr k.toNat) hp
      exact q _ _ _ x1 x2 x3 h
/-- a part of a slice -/
def EvO (W : Wd) (to : TO) (δ : DS) (P : Option Int → Prop) : Prop := ∀ (M : Addr → Prop) (σ : L2.St) (H : Hp), Pre W M δ σ H → ∀ Q : Option Int → Hp → Prop, (∀ o H', StOk W H' → Keep W H H' → P o → Q o H') → to σ H Q
theorem eo_none {P : Option Int → Prop} (h : P none) : EvO W tNoPart δ P := fun M σ H p Q q => q none H p.wf.g (Keep.refl H) h
theorem eo_some {P : Option Int → Prop} {te : TE} (h : EvD W te δ fun d => ∃ i, d = .int i ∧ P (some i)) : EvO W (tPart te) δ P := fun M σ H p Q q => h M σ H p _ fun v d H1 g1 k1 r1 h1 => by
  obtain ⟨i, rfl, hP⟩ := h1
  cases r1
  exact ⟨i, rfl, q (some i) H1 g1 k1 hP⟩
def cutD (xs : List D) (lo hi : Option Int) : List D := (xs.drop (HT.sIx xs.length 0 lo)).take (HT.sIx xs.length xs.length hi - HT.sIx xs.length 0 lo)
theorem Reps.drop {M : Addr → Prop} {H : Hp} : ∀ {vs : List V} {ds : List D} (n : Nat), Reps W M H vs ds → Reps W M H (vs.drop n) (ds.drop n)
  | _, _, 0, r => by rw [List.drop_zero, List.drop_zero]; exact r
  | _, _, _ + 1, .nil => .nil
  | _, _, n + 1, .cons _ t => Reps.drop n t
theorem Reps.take {M : Addr → Prop} {H : Hp} : ∀ {vs : List V} {ds : List D} (n : Nat), Reps W M H vs ds → Reps W M H (vs.take n) (ds.take n)
  | _, _, 0, _ => by rw [List.take_zero, List.take_zero]; exact .nil
  | _, _, _ + 1, .nil => .nil
  | _, _, n + 1, .cons r t => .cons r (Reps.take n t)
theorem cut_all {xs : List D} {lo hi : Option Int} (h : HT.sIx xs.length 0 lo = 0 ∧ HT.sIx xs.length xs.length hi = xs.length) : cutD xs lo hi = xs := by
  unfold cutD
  rw [h.1, h.2, List.drop_zero, Nat.sub_zero, List.take_length]
theorem ev_sl {te : TE} {tl th : TO} (h : EvD W te δ fun x => ∃ xs, x = .tup xs ∧ EvO W tl δ fun lo => EvO W th δ fun hi => P (.tup (cutD xs lo hi))) : EvD W (tSl (rSlA W.K) te tl th) δ P := fun M σ H p Q q =>
  h M σ H p _ fun v x H1 g1 k1 r1 h1 => by
    obtain ⟨xs, rfl, h1⟩ := h1
    have p1 := p.next g1 k1
    refine h1 M σ H1 p1 _ fun lo H2 g2 k2 h2 => ?_
    have p2 := p1.next g2 k2
    refine h2 M σ H2 p2 _ fun hi H3 g3 k3 h3 => ?_
    have p3 := p2.next g3 k3
    have r3 := (r1.keep p1.wf k2).keep p2.wf k3
    cases r3 with
    | @tup a vs ds hs hr =>
      have hl := hr.length
      refine ⟨a, vs, rfl, hs, fun z => ?_, fun z l hn => ?_⟩
      · refine q _ _ H3 g3 ((k1.trans k2).trans k3) (.tup hs hr) ?_
        rw [hl] at z
        have e : P (.tup (cutD xs lo hi)) := h3
        rw [cut_all z] at e
        exact e
      · have rr : Reps W M H3 (cutV vs lo hi) (cutD xs lo hi) := by
          unfold cutV cutD
          rw [hl]
          exact (hr.drop _).take _
        obtain ⟨x1, x2, x3⟩ := newT p3.wf rr hn
        exact q _ _ _ x1 (((k1.trans k2).trans k3).trans x2) x3 h3
end
end PD
namespace PD
open PySem PySem.Spec PyProof.Rows L2
open PDX PDI
def clB (K : PySem.W.Frag) (C fI : Addr) : Bool := PySem.W.plainGet K C Str.empty && PySem.W.hasDictIn K C && PySem.W.plainOver K C && decide (PySem.W.findIn K (.ref C) "__setattr__" = some (some (.builtin "object.__setattr__"))) &&
  decide (PySem.W.findIn K (.ref C) "__class__" = some (some (.builtin "object.__class__"))) && decide (PySem.W.specialIn K (.builtin "object.__class__") "__get__" = some (some (.builtin "getset_descriptor.__get__"))) &&
  decide (PySem.W.takesIn K (.builtin "object.__class__") = some true) && decide (PySem.W.mroIn K C (.type "object") = some true) && decide (PySem.W.kitOne K (.ref C) (.type "int") = some false) &&
  decide (PySem.W.kitOne K (.ref C) (.type "bool") = some false) && decide (PySem.W.kitOne K (.ref C) (.type "tuple") = some false) && decide (PySem.W.kitOne K (.ref C) (.type "str") = some false) && PySem.W.makesIn K C && decide (PySem.W.findIn K (.ref C) "__init__" = some (some (.ref fI))) && PySem.W.isFn K (.ref fI) && PySem.W.keepIn K (.ref C)
theorem cls_of {K : PySem.W.Frag} {C fI : Addr} (q : clB K C fI = true) : OCls K C ∧ Mk K C fI := by
  unfold clB at q
  simp only [Bool.and_eq_true, decide_eq_true_eq] at q
  obtain ⟨⟨⟨⟨⟨⟨⟨⟨⟨⟨⟨⟨⟨⟨⟨h1, h2⟩, h3⟩, h4⟩, h5⟩, h6⟩, h7⟩, h8⟩, h9⟩, h10⟩, h11⟩, h11'⟩, h12⟩, h13⟩, h14⟩, h15⟩ := q
  exact ⟨⟨⟨h1, h2, h3, h4⟩, h5, h6, h7, h8, h9, h10, h11, h11'⟩, h12, h13, h14, h15⟩
def emB (K : PySem.W.Frag) (a b : Addr) (x : Bool) : Bool := decide (PySem.W.exmOne K (.ref a) (.ref b) = some x)
theorem em_of {K : PySem.W.Frag} {a b : Addr} {x : Bool} (h : emB K a b x = true) : PySem.W.exmOne K (.ref a) (.ref b) = some x := @of_decide_eq_true _ _ h
def D.isNon : D → Bool
  | .non => true
  | _ => false
section
variable {W : Wd} {P : D → Prop}
theorem rep_non {M : Addr → Prop} {H : Hp} {v : V} {x : D} (r : Rep W M H v x) : decide (v = V.non) = x.isNon := by
  cases r <;> first | rfl | exact decide_eq_false (by intro z; cases z)
theorem rd_isN {x : D} (h : P (.bl x.isNon)) : RD W (fun x y H Q => y = V.non ∧ Q (V.bl (decide (x = V.non))) H) x .non P := fun M H v u w r1 r2 Q q => by
  cases r2
  refine ⟨rfl, ?_⟩
  rw [rep_non r1]
  exact q _ _ H w.g (Keep.refl H) (.bl _) h
theorem rd_notN {x : D} (h : P (.bl (!x.isNon))) : RD W (fun x y H Q => y = V.non ∧ Q (V.bl (!decide (x = V.non))) H) x .non P := fun M H v u w r1 r2 Q q => by
  cases r2
  refine ⟨rfl, ?_⟩
  rw [rep_non r1]
  exact q _ _ H w.g (Keep.refl H) (.bl _) h
end
/-- what the __init__ of the first class of the errors keeps -/
theorem init0_body {K : PySem.W.Frag} {vs : List V} {H : Hp} {Q : VK} {E : XK} {N : List Str} (h : spI0 K vs H Q E) : tDrop (tVeI K (tCons (tVar 0) tNil)) { nx := fun _ H' => Q .non H', rt := Q } (L2.start N vs) H := by
  obtain ⟨a, C, rfl, hC, e, q⟩ := h
  refine ⟨.ref a, rfl, a, C, [], rfl, Nat.zero_le _, hC, e, q⟩
end PD
namespace PDT
open PySem PySem.Spec L2 PyProof.Rows
/-! ### try, several clauses, each with a name or without -/
/-- a clause: the slot of its name, the class, the suite's reading -/
abbrev Cl := Option Nat × Value × (Addr → Value → Option Addr → TS)
def slotOf (o : Option Nat) (a : Addr) (σ : L2.St) : L2.St := match o with
  | none => σ
  | some i => σ.set i (some (.ref a))
def lessOf (o : Option Nat) (σ : L2.St) : L2.St := match o with
  | none => σ
  | some i => σ.set i none
/-- the ends of a suite: the name goes -/
def endsOf (o : Option Nat) (D : Ends) : Ends := { nx := fun σ H => D.nx (lessOf o σ) H, rt := D.rt, bk := fun σ H => D.bk (lessOf o σ) H, ct := fun σ H => D.ct (lessOf o σ) H }
def wCl (K : PySem.W.Frag) (Wout : WX) (D : Ends) : List Cl → WX
  | [] => Wout
  | cl :: more => fun cls d σ H => ∃ yes, PySem.W.exmOne K cls cl.2.1 = some yes ∧ (yes = true → ∀ a, H a = none → cl.2.2 a cls d (endsOf cl.1 D) (slotOf cl.1 a σ) H) ∧ (yes = false → wCl K Wout D more cls d σ H)
/-- a clause's suite, read -/
def SuiteOk (X : Cx) (body : List Stmt) (ts : Addr → Value → Option Addr → TS) : Prop := ∀ (a : Addr) (oe : Obj) (cls : Value) (d : Option Addr) (pn : List (Addr × Obj)), Zc cls d oe → (∃ vs, oe.data = .fields vs) → PSs (X.suite a ((a, oe) :: pn)) body (ts a cls d)
inductive Clauses (X : Cx) : List ExceptHandler → List Cl → Prop
  | done : Clauses X [] []
  | plain {x : Str} {c : Value} {ts : Addr → Value → Option Addr → TS} {st : Stmt} {sts : List Stmt} {p q : Pos} {hs : List ExceptHandler} {cs : List Cl} :
      Names X x c → SuiteOk X (st :: sts) ts → Clauses X hs cs → Clauses X (.ExceptHandler (some (.Name x p)) none (st :: sts) q :: hs) ((none, c, ts) :: cs)
  | named {x n : Str} {i : Nat} {c : Value} {ts : Addr → Value → Option Addr → TS} {st : Stmt} {sts : List Stmt} {p q : Pos} {hs : List ExceptHandler} {cs : List Cl} :
      Names X x c → X.N[i]? = some n → X.env.kindOf n = some .local → SuiteOk X (st :: sts) ts → Clauses X hs cs → Clauses X (.ExceptHandler (some (.Name x p)) (some n) (st :: sts) q :: hs) ((some i, c, ts) :: cs)
section
variable {X : Cx} {pins : List (Addr × Obj)} {σ : L2.St} {H : Hp} {cls : Value} {d : Option Addr} {a : Addr} {B h : Heap} {sI s' : Shared} {D : Ends}
/-- caught: the exception lies at a in h; without it there was sI -/
structure Lies (X : Cx) (pins : List (Addr × Obj)) (σ : L2.St) (H : Hp) (cls : Value) (d : Option Addr) (a : Addr) (B : Heap) (sI s' : Shared) (h : Heap) : Prop where
  inv : L2.Inv X pins σ H sI
  off : ∀ b o, sI.heap.get? b = some o → b ∉ frs X.stack → B.get? b = some o
  up : sI.heap.UpToSlots h
  fly : HandSPX.FlyingZ B (X.env :: X.outer) a (Zc cls d) h
  new : H a = none
  os : s'.os = sI.os
  bare : AllBare s'.gens
theorem Lies.now (L : Lies X pins σ H cls d a B sI s' h) : L2.Inv X pins σ H { s' with heap := h } := L.inv.landed L.off L.fly.1 L.up L.os L.bare
theorem Lies.in_suite (L : Lies X pins σ H cls d a B sI s' h) (hf : X.env.frame = some X.env.locals) :
    ∃ oe, h.get? a = some oe ∧ Zc cls d oe ∧ (∃ vs, oe.data = .fields vs) ∧ L2.Inv (X.suite a ((a, oe) :: (X.pn ++ pins))) [] σ H { s' with heap := h } := by
  obtain ⟨oe, vs, at_a, z, dat⟩ := L.fly.there
  have apart : ∀ e ∈ X.env :: X.outer, e.frame ≠ some a := fun e me z => by
    obtain ⟨_, o2, h2, far⟩ := L.fly.2.2.1.mem (List.mem_filterMap.mpr ⟨e, me, z⟩)
    rw [at_a] at h2
    cases h2
    exact far _ dat
  refine ⟨oe, at_a, z, ⟨vs, dat⟩, L.now.suite at_a dat L.new (fun z => apart _ List.mem_cons_self (by rw [hf, z])) fun m => ?_⟩
  obtain ⟨e, me, z⟩ := List.mem_filterMap.mp m
  exact apart e (List.mem_cons_of_mem _ me) z
/-- the class that a clause names, and whether it is this one -/
theorem Lies.asks {x : Str} {c : Value} {yes : Bool} {p : Pos} {n : Option Str} {st : Stmt} {sts : List Stmt} {q : Pos} {hs : List ExceptHandler} {Q : Flow → Shared → Prop} (L : Lies X pins σ H cls d a B sI s' h) (hf : X.env.frame = some X.env.locals) (hc : Names X x c)
    (hy : PySem.W.exmOne X.K cls c = some yes)
    (go : yes = true → codeAny (model X.prog X.w) (X.A.mark (some (.ref a))) (.handlers (.ref a) [.ExceptHandler none n (st :: sts) q] X.env) (fun r t => match r with
      | .ok f => (match n with
        | none => Q f t
        | some n => wpAny (model X.prog X.w) X.A (do bindName X.env n .none; unbindBehindTheSuite X.env n q) (fun _ u => Q f u) X.xe t)
      | .error e => cameBackBy (model X.prog X.w) X.A X.env X.xe e t) { s' with heap := h })
    (on : yes = false → wpAny (model X.prog X.w) X.A (handleBy (.ref a) X.env hs) Q X.xe { s' with heap := h }) :
    wpAny (model X.prog X.w) X.A (handleBy (.ref a) X.env (.ExceptHandler (some (.Name x p)) n (st :: sts) q :: hs)) Q X.xe { s' with heap := h } := by
  obtain ⟨oe, at_a, z, _, I⟩ := L.in_suite hf
  have kind : PySem.W.Looks (model X.prog X.w) h (typeOf (.ref a)) cls := fun _ _ _ _ k m => wpAny_typeOf_ref (k _ _ at_a) (z.1 ▸ m)
  have told := (PySem.W.exm_one L.now.kIn kind hy)
  refine wpAny_handleBy_cons (codeAny_handlers_test ?_) (fun m => by cases m)
  have named : ∀ {R S : Value → Shared → Prop}, R c { s' with heap := h } → wpAny (model X.prog X.w) (X.A.mark (some (.ref a))) (eval (.Name x p) X.env) R S { s' with heap := h } := fun r => by
    rcases hc with ⟨g, nd, here | ⟨none, boot, nn⟩⟩
    · exact ld_glob I g here r nd
    · exact ld_blt I g none boot r nn nd
  refine named (told.here ?_)
  cases yes
  · exact on rfl
  · exact go rfl
/-- the suite of a clause that fits, from where it stands -/
theorem Lies.suite {ts : Addr → Value → Option Addr → TS} {st : Stmt} {sts : List Stmt} {σ' : L2.St} {oe : Obj} {s6 : Shared} {E' : Ends} {R : Flow → Shared → Prop} {F : Value → Shared → Prop} (ok : X.Ok) (hS : SuiteOk X (st :: sts) ts) (z : Zc cls d oe) (f : ∃ vs, oe.data = .fields vs)
    (I : L2.Inv (X.suite a ((a, oe) :: (X.pn ++ pins))) [] σ' H s6) (w : ts a cls d E' σ' H)
    (nx : ∀ σ H t, L2.Inv X pins σ H t → E'.nx σ H → R .next t) (bk : ∀ σ H t, L2.Inv X pins σ H t → E'.bk σ H → R .brk t) (ct : ∀ σ H t, L2.Inv X pins σ H t → E'.ct σ H → R .cont t)
    (rt : ∀ v u σ H t, L2.Inv X pins σ H t → RelV v u → E'.rt v H → R (.ret u) t) :
    wpAny (model X.prog X.w) (X.A.mark (some (.ref a))) (execs (st :: sts) X.env) R F s6 := by
  refine wpAny_mono ((hS a oe cls d (X.pn ++ pins) z f).run [] s6 σ' H E' I w) (fun fl t got => ?_) fun _ _ no => no.elim
  cases fl with
  | next => obtain ⟨_, _, J, e⟩ := got; exact nx _ _ _ (J.unsuite ok) e
  | brk => obtain ⟨_, _, J, e⟩ := got; exact bk _ _ _ (J.unsuite ok) e
  | cont => obtain ⟨_, _, J, e⟩ := got; exact ct _ _ _ (J.unsuite ok) e
  | ret u => obtain ⟨_, _, _, J, r, e⟩ := got; exact rt _ _ _ _ _ (J.unsuite ok) r e
/-- all clauses of a try, in their order -/
theorem Lies.clauses {Wout : WX} {hs : List ExceptHandler} {cs : List Cl} (L : Lies X pins σ H cls d a B sI s' h) (stk : X.stack = X.env :: X.outer) (hf : X.env.frame = some X.env.locals) (nd : X.N.Nodup) (tk : Takes X Wout) (hk : Clauses X hs cs) :
    wCl X.K Wout D cs cls d σ H → wpAny (model X.prog X.w) X.A (handleBy (.ref a) X.env hs) (SP X pins D) X.xe { s' with heap := h } := by
  have ok := L.inv.ok
  -- the flight is turned down once more, then the suite runs
  have land : ∀ {Q : Unit → Shared → Prop} {F : Value → Shared → Prop}, (∀ g, Lies X pins σ H cls d a B sI s' g → Q () { s' with heap := g }) → wpAny (model X.prog X.w) (X.A.mark (some (.ref a))) (setFlight (.ref a) none) Q F { s' with heap := h } := fun k =>
    HandSPX.lands_againZ L.fly fun g fl more => k g ⟨L.inv, L.off, L.up.trans more, fl, L.new, L.os, L.bare⟩
  induction hk with
  | done =>
    intro w
    obtain ⟨oe, vs, T, oT, tr, at_a, z, dat, f1, far⟩ := L.fly.2.2.2
    refine wpAny_handleBy_nil ?_
    show wpAny (model X.prog X.w) X.A (PySem.passOn "try.no-clause-matches" (.ref a) X.env) _ _ _
    delta PySem.passOn
    refine wpAny_bind (wpAny_field at_a dat f1 ?_)
    have away : wpAny (model X.prog X.w) X.A (setFlight (.ref a) X.env.frame) (fun _ t => wpAny (model X.prog X.w) X.A (throw (.ref a) : Sem Flow) (SP X pins D) X.xe t) X.xe { s' with heap := h } := by
      rw [hf]
      refine HandSPX.setFlight_upZ L.fly fun g held more => wpAny_throw (tk _ _ ⟨a, B, sI, pins, σ, H, cls, d, rfl, L.inv, L.off, L.up.trans more, ?_, L.new, L.os, L.bare, w⟩)
      rw [stk]
      exact .inr (.inr held)
    have tr : ¬ ((Value.ref T == Value.none) = true) := by simp
    first
      | (rw [if_neg tr]; exact wpAny_bind (wpAny_pure (wpAny_bind away)))
      | (rw [if_neg tr]; exact wpAny_bind away)
  | plain hc hS _ next =>
    rintro ⟨yes, hy, w1, w0⟩
    refine L.asks hf hc hy (fun e => codeAny_handlers_suite (land fun g Lg => ?_)) fun e => next (w0 e)
    obtain ⟨oe, _, z, f, I⟩ := Lg.in_suite hf
    exact Lies.suite ok hS z f I (w1 e a L.new) (fun _ _ _ J m => ⟨_, _, J, m⟩) (fun _ _ _ J m => ⟨_, _, J, m⟩) (fun _ _ _ J m => ⟨_, _, J, m⟩) fun _ _ _ _ _ J r m => ⟨_, _, _, J, r, m⟩
  | @named x n i c ts st sts p q hs cs hc hi hl hS _ next =>
    rintro ⟨yes, hy, w1, w0⟩
    refine L.asks hf hc hy (fun e => codeAny_handlers_suite_as (land fun g Lg => ?_)) fun e => next (w0 e)
    obtain ⟨oe, _, z, f, I⟩ := Lg.in_suite hf
    refine store_ok (X := X.suite a ((a, oe) :: (X.pn ++ pins))) (v := .ref a) I nd hi (.inl hl) rfl (fun t J => ?_) (.inr hl)
    have bare : ∀ {σ : L2.St} {H : Hp} {u : Shared} {Q : Unit → Shared → Prop}, L2.Inv X pins σ H u → (∀ u', L2.Inv X pins (σ.set i none) H u' → Q () u') → wpAny (model X.prog X.w) X.A (do bindName X.env n .none; unbindBehindTheSuite X.env n q) Q X.xe u := fun I k => gone_ok I nd hi hl k
    exact Lies.suite ok hS z f J (w1 e a L.new) (fun _ _ _ J m => bare J fun _ G => ⟨_, _, G, m⟩) (fun _ _ _ J m => bare J fun _ G => ⟨_, _, G, m⟩) (fun _ _ _ J m => bare J fun _ G => ⟨_, _, G, m⟩) fun _ _ _ _ _ J r m => bare J fun _ G => ⟨_, _, _, G, r, m⟩
/-- try .. except .. -/
theorem ps_tryC {body : List Stmt} {c0 : ExceptHandler} {hs : List ExceptHandler} {cs : List Cl} {pos : Pos} {tb : WX → TS} {Wout : WX} (stk : X.stack = X.env :: X.outer) (hf : X.env.frame = some X.env.locals) (nd : X.N.Nodup) (tk : Takes X Wout)
    (hb : ∀ (W : WX) (pn : List (Addr × Obj)) (xe : Value → Shared → Prop), Takes (X.tr pn xe) W → PassesOwn (model X.prog X.w) X.A X.env xe → PSs (X.tr pn xe) body (tb W)) (hk : Clauses X (c0 :: hs) cs) :
    PS X (.Try body (c0 :: hs) [] [] pos) (fun D σ H => tb (wCl X.K Wout D cs) D σ H) := ⟨fun pins s σ H D I w => by
  have ok := I.ok
  refine wpAny_Try_except (wpAny_mono ((hb (wCl X.K Wout D cs) (X.pn ++ pins) _ (fun u t up => ?_) PassesOwn.looking).run [] s σ H D (I.toTry fun e t => wpAny (model X.prog X.w) X.A (noteFrame e X.env) (fun _ t => wpAny (model X.prog X.w) X.A (setFlight e none) (fun _ t =>
    wpAny (model X.prog X.w) X.A (handleBy e X.env (c0 :: hs)) (SP X pins D) X.xe t) X.xe t) X.xe t) w) (fun f t got => ?_) fun _ _ e => e)
  · obtain ⟨a, B, sI, pins', σ', H', cls, d, rfl, J, off, more, sky, new, os, bare, wish⟩ := up
    have sk : Sky B (X.env :: X.outer) a (Zc cls d) X.env.locals t.heap := stk ▸ sky
    exact Sky.land Zc.steady (by rw [ok.frames, stk]) hf sk fun g fl m => Lies.clauses ⟨J.ofTry ok, off, more.trans m, fl, new, os, bare⟩ stk hf nd tk hk wish
  · cases f with
    | next => obtain ⟨_, _, J, e⟩ := got; exact wpAny_execs_nil ⟨_, _, J.ofTry ok, e⟩
    | brk => obtain ⟨_, _, J, e⟩ := got; exact ⟨_, _, J.ofTry ok, e⟩
    | cont => obtain ⟨_, _, J, e⟩ := got; exact ⟨_, _, J.ofTry ok, e⟩
    | ret u => obtain ⟨_, _, _, J, r, e⟩ := got; exact ⟨_, _, _, J.ofTry ok, r, e⟩⟩
end
end PDT
namespace PD
open PySem PySem.Spec PyProof.Rows L2
open PDX PDI PDT
section
variable {W : Wd} {Wx : WX} {X : XV → DS → Prop} {δ : DS} {N : DS → Prop} {R : D → Prop} {B C : DS → Prop} {ta : TA}
/-! ### clauses, with names or without -/
def ClsD (W : Wd) (Wout : WX) (l : List Cl) (x : XV) (δ : DS) (N : DS → Prop) (R : D → Prop) (B C : DS → Prop) (X : XV → DS → Prop) : Prop :=
  match l with
  | [] => X x δ
  | (o, c, ts) :: r => ∃ b, PySem.W.exmOne W.K (.ref x.1) c = some b ∧ (b = true → match o with
      | none => ∀ a cls d, SX W Wout (ts a cls d) δ N R B C XN
      | some i => (∀ a dx, SX W Wout (ts a (.ref x.1) (some dx)) (δ.set i (some (.exc a dx (x.2.map (·.1)) (x.2.map (·.2))))) (fun δ => N (δ.set i none)) R (fun δ => B (δ.set i none)) (fun δ => C (δ.set i none)) XN) ∧
          (x.2 = [] → ∀ a, SX W Wout (ts a (.ref x.1) none) (δ.set i (some (.obj a))) (fun δ => N (δ.set i none)) R (fun δ => B (δ.set i none)) (fun δ => C (δ.set i none)) XN)) ∧ (b = false → ClsD W Wout r x δ N R B C X)
theorem Pre.putD {M : Addr → Prop} {σ : L2.St} {H : Hp} (p : Pre W M δ σ H) (i : Nat) {v : V} {d : D} (r : Rep W M H v d) : Pre W M (δ.set i (some d)) (σ.set i (some v)) H := ⟨p.wf, p.sl.set i r⟩
theorem Pre.dropD {M : Addr → Prop} {σ : L2.St} {H : Hp} (p : Pre W M δ σ H) (i : Nat) : Pre W M (δ.set i none) (σ.set i none) H := ⟨p.wf, p.sl.drop i none⟩
theorem outs_less {Wout : WX} {M0 : Addr → Prop} {H0 : Hp} {E : Ends} {i : Nat} (o : Outs W Wout M0 H0 N R B C X E) :
    Outs W Wout M0 H0 (fun δ => N (δ.set i none)) R (fun δ => B (δ.set i none)) (fun δ => C (δ.set i none)) XN (endsOf (some i) E) :=
  ⟨fun M σ δ H p e h => o.nx M _ _ H (p.dropD i) e h, o.rt, fun M σ δ H p e h => o.bk M _ _ H (p.dropD i) e h, fun M σ δ H p e h => o.ct M _ _ H (p.dropD i) e h, fun _ _ _ _ _ _ _ _ _ _ z => z.elim⟩
theorem cls_ok {Wout : WX} : ∀ {l : List Cl} {x : XV} {cls : Value} {d : Option Addr} {M0 M : Addr → Prop} {H0 H : Hp} {σ : L2.St} {δ : DS} {E : Ends}, ClsD W Wout l x δ N R B C X → XRep W M H cls d x → Pre W M δ σ H → Ent W M0 H0 M H →
    Outs W Wout M0 H0 N R B C X E → wCl W.K Wout E l cls d σ H
  | [], x, cls, d, M0, M, H0, H, σ, δ, E, h, rx, p, en, o => o.xw M σ δ H cls d x p en rx h
  | (none, c, ts) :: r, x, cls, d, M0, M, H0, H, σ, δ, E, h, rx, p, en, o => by
    obtain ⟨b, h1, h2, h3⟩ := h
    refine ⟨b, by rw [rx.1]; exact h1, fun hb a _ => ?_, fun hb => cls_ok (h3 hb) rx p en o⟩
    exact h2 hb a cls d M0 H0 M σ H E p en ⟨o.nx, o.rt, o.bk, o.ct, fun _ _ _ _ _ _ _ _ _ _ z => z.elim⟩
  | (some i, c, ts) :: r, x, cls, d, M0, M, H0, H, σ, δ, E, h, rx, p, en, o => by
    obtain ⟨b, h1, h2, h3⟩ := h
    refine ⟨b, by rw [rx.1]; exact h1, fun hb a _ => ?_, fun hb => cls_ok (h3 hb) rx p en o⟩
    obtain ⟨rfl, rx⟩ := rx
    cases d with
    | none => exact (h2 hb).2 rx a M0 H0 M _ H _ (p.putD i (.obj a)) en (outs_less o)
    | some dx =>
      obtain ⟨fs, nM, hx, en2, re⟩ := rx
      exact (h2 hb).1 a dx M0 H0 M _ H _ (p.putD i (.exc nM hx en2 re)) en (outs_less o)
theorem sx_tryC {tb : WX → TS} {Wout : WX} {l : List Cl} {Xb : XV → DS → Prop} (hb : ∀ Wx, SX W Wx (tb Wx) δ N R B C Xb) (hc : ∀ x δ', Xb x δ' → ClsD W Wout l x δ' N R B C X) :
    SX W Wout (fun D σ H => tb (wCl W.K Wout D l) D σ H) δ N R B C X := fun M0 H0 M σ H E p e o =>
  hb (wCl W.K Wout E l) M0 H0 M σ H E p e ⟨o.nx, o.rt, o.bk, o.ct, fun M' σ' δ' H' cls d x p' e' rx hx => cls_ok (hc x δ' hx) rx p' e' o⟩
/-- e.f, e a caught exception -/
theorem ev_xf {a dx Cx : Addr} {f : Str} {te : TE} {P : D → Prop} (h : EvD W te δ fun x => ∃ ns ds d, x = .exc a dx ns ds ∧ (ns.zip ds).lookup f = some d ∧ P d) : EvD W (tXf a (.ref Cx) (some dx) Cx f te) δ P := fun M σ H p Q q =>
  h M σ H p _ fun v x H1 g1 k1 r1 h1 => by
    obtain ⟨ns, ds, d, rfl, hl, hP⟩ := h1
    cases r1 with
    | exc nM hx e r =>
      subst e
      obtain ⟨v, h2, h3⟩ := lookup_D r hl
      exact ⟨rfl, rfl, dx, _, v, rfl, hx, h2, q v d H1 g1 k1 h3 hP⟩
/-! ### objects made by what may raise -/
/-- C(..), C's __init__ may raise -/
def tMakeS (C : Addr) (sp : Sp) (E : L2.St → XK) (t : TA) : TE := fun σ => tMake C sp [] (E σ) t σ
theorem makeX_core {F : FI} {M0 M : Addr → Prop} {H0 H1 : Hp} {σ : L2.St} {vs : List V} {ds : List D} {E : Ends} {Q : VK} {P : D → Prop} {Cc : Addr} (p : Pre W M δ σ H1) (e : Ent W M0 H0 M H1) (r : Reps W M H1 vs ds) (o : Outs W Wx M0 H0 N R B C X E) (hF : F Cc ds (fun ns es => P (.ins Cc ns es)) fun x => X x δ)
    (hQ : ∀ v d H2, StOk W H2 → Keep W H1 H2 → Rep W M H2 v d → P d → Q v H2) : ∀ x dx, H1 x = none → H1 dx = none → dx ≠ x → spInit W.K F (.ref x :: (vs ++ [])) (upd (upd H1 dx (.own x)) x (.ins Cc dx [])) (fun v H2 => v = .non ∧ Q (.ref x) H2) (WE Wx σ) :=
  make_core p.wf r hF hQ fun cls d y H2 g2 k2 rx hx => o.xw M σ δ H2 cls d y (p.next g2 k2) (e.next k2) rx hx
theorem sx_asgMk {i : Nat} {F : FI} {Cc : Addr} (h : EvA W ta δ fun ds => F Cc ds (fun ns es => N (δ.set i (some (.ins Cc ns es)))) fun x => X x δ) : SX W Wx (tAsg (tMakeS Cc (spInit W.K F) (WE Wx) ta) (gName i)) δ N R B C X := fun M0 H0 M σ H E p e o =>
  h M σ H p _ fun vs ds H1 g1 k1 r1 h1 => makeX_core (P := fun d => N (δ.set i (some d))) (p.next g1 k1) (e.next k1) r1 o h1 fun v d H2 g2 k2 r2 hN => o.nx M _ _ H2 ⟨(p.wf.next g1 k1).next g2 k2, (((p.next g1 k1).next g2 k2).sl.set i r2)⟩ ((e.next k1).next k2) hN
theorem sx_retMk {F : FI} {Cc : Addr} (h : EvA W ta δ fun ds => F Cc ds (fun ns es => R (.ins Cc ns es)) fun x => X x δ) : SX W Wx (tRet (tMakeS Cc (spInit W.K F) (WE Wx) ta)) δ N R B C X := fun M0 H0 M σ H E p e o =>
  h M σ H p _ fun vs ds H1 g1 k1 r1 h1 => makeX_core (P := R) (p.next g1 k1) (e.next k1) r1 o h1 fun v d H2 g2 k2 r2 hR => o.rt v d H2 g2 ((e.k.trans k1).trans k2) (r2.anti e.m) hR
end
/-- the reading of such a call -/
theorem pe_makeS {X : Cx} {CX : CXT} {k : Nat} {f C : Addr} {fd : FuncData} {ps : List Str} {sp : Sp} {E : L2.St → XK} {x : Str} {p pos : Pos} {e : Expr} {es : List Expr} {t : TA} (M : Mk X.K C f) (F : FnOk X.prog X.w X.K X.mg X.base CX k f fd ps sp) (hr : Room (k + 1) X.A) (hg : Gl X x) (hm : X.mg x = some (.ref C)) (hb : Binds X.K fd ps [])
    (hx : ∀ σ, PassesAt CX X σ (E σ)) (ha : PA X (e :: es) t) (nd : (x == ("__debug__" : Str)) = false := by decide) (st : starEach (e :: es) X.env = (false, eval e X.env) :: starEach es X.env := by rfl) (pl : (backTo pos (starEach es X.env)).any (·.1) = false := by rfl) :
    PE X (.Call (.Name x p) (e :: es) [] pos) (tMakeS C sp E t) := ⟨fun pins s σ H Q I h => by
  refine wpAny_Call_Name_kw (ld_glob I hg hm (PySem.W.callWith_K (h₀ := X.base) I.ok.mod.kin M.kp (thn (ha.run pos pins s σ H _ I h) fun us t got => ?_) st pl) nd)
  obtain ⟨vs, H1, J, r, made⟩ := got
  refine ⟨J.kIn, ?_⟩
  have w := made (t.heap.objs.size + 1) t.heap.objs.size (J.hok.fresh (Nat.le_succ _)) (J.hok.fresh (Nat.le_refl _)) (Nat.succ_ne_self _).symm
  have G := Inv.made (C := C) J
  rw [List.append_nil] at w
  have rr : Vals (V.ref (t.heap.objs.size + 1) :: vs) (Value.ref (t.heap.objs.size + 1) :: us) := .cons rfl r
  have many : (Value.ref (t.heap.objs.size + 1) :: us).length = ps.length := rr.length.symm.trans (F.len _ _ _ _ w)
  have bound := hb _ (Value.ref (t.heap.objs.size + 1) :: us) G.kIn (by rw [List.append_nil]; exact many)
  rw [List.append_nil] at bound
  refine wpAny_call (make_map J.kIn M.makes M.init (beq_iff_eq.mp M.fn) (codeAny_mono (F.run _ X.stack _ _ ⟨_ :: us, []⟩ _ _ _ (E σ) (hr.make C us []) (G.env0.make C us []) bound rr w) fun r u out => ?_))
  rcases r with e | fl
  · exact hx σ pins _ _ e u G out
  · cases fl with
    | ret v =>
      obtain ⟨v, H2, I2, rv, rfl, q⟩ := G.after out
      exact ⟨rv, V.ref (t.heap.objs.size + 1), H2, I2, rfl, q⟩
    | next => cases out
    | brk => cases out
    | cont => cases out⟩
end PD
namespace PD
open PySem PySem.Spec PyProof.Rows L2
/-! ### data that can be compared -/
mutual
def D.lays : D → Nat → Bool
  | .non, _ | .bl _, _ | .int _, _ => true
  | .tup xs, n + 1 => D.laysA xs n
  | .lst xs, n + 1 => D.laysA xs n
  | _, _ => false
def D.laysA : List D → Nat → Bool
  | [], _ => true
  | x :: xs, n => x.lays n && D.laysA xs n
end
mutual
theorem lays_ok : ∀ {x : D} {n : Nat}, x.lays n = true → x.plain = true ∧ x.py.canLay0 = true ∧ x.py.depth ≤ n
  | .non, _, _ => by simp [D.plain, D.py, PyData.canLay0, PyData.depth]
  | .bl _, _, _ => by simp [D.plain, D.py, PyData.canLay0, PyData.depth]
  | .int _, _, _ => by simp [D.plain, D.py, PyData.canLay0, PyData.depth]
  | .tup xs, n + 1, h => by
    have e := laysA_ok (xs := xs) (n := n) (by simpa [D.lays] using h)
    simp [D.plain, D.py, PyData.canLay0, PyData.depth, e.1, e.2.1, e.2.2]
  | .lst xs, n + 1, h => by
    have e := laysA_ok (xs := xs) (n := n) (by simpa [D.lays] using h)
    simp [D.plain, D.py, PyData.canLay0, PyData.depth, e.1, e.2.1, e.2.2]
  | .tup _, 0, h => by simp [D.lays] at h
  | .lst _, 0, h => by simp [D.lays] at h
  | .str _, _, h => by simp [D.lays] at h
  | .ty _, _, h => by simp [D.lays] at h
  | .st, _, h => by simp [D.lays] at h
  | .obj _, _, h => by simp [D.lays] at h
  | .dct, _, h => by simp [D.lays] at h
  | .rng _, _, h => by simp [D.lays] at h
  | .ins _ _ _, _, h => by simp [D.lays] at h
  | .exc _ _ _ _, _, h => by simp [D.lays] at h
  | .xob _ _ _, _, h => by simp [D.lays] at h
  | .dic _ _, _, h => by simp [D.lays] at h
theorem laysA_ok : ∀ {xs : List D} {n : Nat}, D.laysA xs n = true → D.plains xs = true ∧ PyData.canLayAll0 (D.pys xs) = true ∧ PyData.depthAll (D.pys xs) ≤ n
  | [], n, _ => by simp [D.plains, D.pys, PyData.canLayAll0, PyData.depthAll]
  | x :: xs, n, h => by
    simp only [D.laysA, Bool.and_eq_true] at h
    have a := lays_ok h.1
    have b := laysA_ok h.2
    simp [D.plains, D.pys, PyData.canLayAll0, PyData.depthAll, a.1, a.2.1, b.1, b.2.1]
    exact Nat.max_le.mpr ⟨a.2.2, b.2.2⟩
end
theorem lays_fine {x : D} {n : Nat} (h : x.lays n = true) (hn : n ≤ 64) : x.fine = true := by
  obtain ⟨a, b, c⟩ := lays_ok h
  show (x.plain && SeqAt.shaped x.py) = true
  rw [a, Bool.true_and]
  show (x.py.canLay0 && decide (x.py.depth ≤ 64)) = true
  rw [b, Bool.true_and]
  exact decide_eq_true (by omega)
theorem laysA_of {xs : List D} {n : Nat} (h : ∀ x ∈ xs, x.lays n = true) : D.laysA xs n = true := by
  induction xs with
  | nil => simp only [D.laysA]
  | cons y ys ih =>
    simp only [D.laysA, Bool.and_eq_true]
    exact ⟨h y List.mem_cons_self, ih fun x hx => h x (List.mem_cons_of_mem _ hx)⟩
theorem lays_tup {xs : List D} {n : Nat} (h : ∀ x ∈ xs, x.lays n = true) : (D.tup xs).lays (n + 1) = true := by simp only [D.lays]; exact laysA_of h
theorem fineS (s : Str) (h : D.fine (.str s) = true) : D.fine (.str s) = true := h
/-! ### slim data: no great integer, no long row -/
mutual
def D.slim : D → Bool
  | .int i => decide (i.natAbs < 10000000000000000000000000000000000000000)
  | .tup xs | .lst xs => decide (xs.length ≤ 1000) && D.slims xs
  | _ => true
def D.slims : List D → Bool
  | [] => true
  | x :: xs => D.slim x && D.slims xs
end
mutual
theorem slim_small : ∀ {x : D}, D.slim x = true → x.small = true
  | .int i, h => by
    simp only [D.slim] at h
    simp only [D.small]
    exact decide_eq_true (lt_pow (m := 134) (sz40 (of_decide_eq_true h)) (by decide))
  | .tup xs, h => by
    simp only [D.slim, Bool.and_eq_true] at h
    simp only [D.small]
    exact slims_small h.2
  | .lst xs, h => by
    simp only [D.slim, Bool.and_eq_true] at h
    simp only [D.small]
    exact slims_small h.2
  | .non, _ | .bl _, _ | .str _, _ | .ty _, _ | .st, _ | .obj _, _ | .dct, _ | .rng _, _ | .ins _ _ _, _ | .exc _ _ _ _, _ | .xob _ _ _, _ | .dic _ _, _ => by simp only [D.small]
theorem slims_small : ∀ {xs : List D}, D.slims xs = true → D.smalls xs = true
  | [], _ => by simp only [D.smalls]
  | x :: xs, h => by
    simp only [D.slims, Bool.and_eq_true] at h
    simp only [D.smalls, Bool.and_eq_true]
    exact ⟨slim_small h.1, slims_small h.2⟩
end
theorem slims_mem {xs : List D} (h : D.slims xs = true) {x : D} (hx : x ∈ xs) : x.slim = true := by
  induction xs with
  | nil => cases hx
  | cons y ys ih =>
    simp only [D.slims, Bool.and_eq_true] at h
    rcases List.mem_cons.mp hx with rfl | hx
    · exact h.1
    · exact ih h.2 hx
theorem slims_of {xs : List D} (h : ∀ x ∈ xs, x.slim = true) : D.slims xs = true := by
  induction xs with
  | nil => simp only [D.slims]
  | cons y ys ih =>
    simp only [D.slims, Bool.and_eq_true]
    exact ⟨h y List.mem_cons_self, ih fun x hx => h x (List.mem_cons_of_mem _ hx)⟩
/-- what may be passed here: judged and slim -/
structure Gd (K : PySem.W.Frag) (x : D) : Prop where
  j : Jd K x
  s : x.slim = true
theorem Gd.small {K : PySem.W.Frag} {x : D} (h : Gd K x) : x.small = true := slim_small h.s
theorem Gd.ty {K : PySem.W.Frag} {x : D} (h : Gd K x) : Jd1 K x := jd_ty h.j
theorem Gd.tup {K : PySem.W.Frag} {xs : List D} (h : ∀ x ∈ xs, Gd K x) (hl : xs.length ≤ 1000) : Gd K (.tup xs) := ⟨by
    simp only [Jd]
    exact jdA_of fun x hx => (h x hx).j, by
    simp only [D.slim, Bool.and_eq_true]
    exact ⟨decide_eq_true hl, slims_of fun x hx => (h x hx).s⟩⟩
theorem Gd.lst {K : PySem.W.Frag} {xs : List D} (h : ∀ x ∈ xs, Gd K x) (hl : xs.length ≤ 1000) : Gd K (.lst xs) := ⟨by
    simp only [Jd]
    exact jdA_of fun x hx => (h x hx).j, by
    simp only [D.slim, Bool.and_eq_true]
    exact ⟨decide_eq_true hl, slims_of fun x hx => (h x hx).s⟩⟩
theorem Gd.mem {K : PySem.W.Frag} {xs : List D} (h : Gd K (.tup xs)) {x : D} (hx : x ∈ xs) : Gd K x := ⟨by
    have := h.j
    simp only [Jd] at this
    exact jd_mem this hx, by
    have := h.s
    simp only [D.slim, Bool.and_eq_true] at this
    exact slims_mem this.2 hx⟩
theorem Gd.len {K : PySem.W.Frag} {xs : List D} (h : Gd K (.tup xs)) : xs.length ≤ 1000 := by
  have := h.s
  simp only [D.slim, Bool.and_eq_true, decide_eq_true_eq] at this
  exact this.1
theorem Gd.lenD {K : PySem.W.Frag} {x : D} (h : Gd K x) : x.len ≤ 1000 := by
  cases x with
  | tup xs =>
    have := h.len
    show (xs.length : Int) ≤ 1000
    omega
  | _ => exact (by decide : (-1 : Int) ≤ 1000)
theorem Gd.int (K : PySem.W.Frag) {i : Int} (h : i.natAbs < 10000000000000000000000000000000000000000) : Gd K (.int i) := ⟨by simp only [Jd], by simp only [D.slim]; exact decide_eq_true h⟩
theorem Gd.non (K : PySem.W.Frag) : Gd K .non := ⟨by simp only [Jd], by simp only [D.slim]⟩
theorem Gd.fr (K : PySem.W.Frag) {p : Fr} (h1 : p.1.natAbs < 10000000000000000000000000000000000000000) (h2 : p.2.natAbs < 10000000000000000000000000000000000000000) : Gd K (fr p) := Gd.tup (fun x hx => by
  simp only [List.mem_cons, List.not_mem_nil, or_false] at hx
  rcases hx with rfl | rfl
  · exact .int K h1
  · exact .int K h2) (by show 2 ≤ 1000; decide)
/-! ### the first that is so -/
theorem find_some {p : D → Bool} {xs : List D} {i : Nat} {d : D} (h : ∀ j, j < i → ∀ e, xs[j]? = some e → p e = false) (hd : xs[i]? = some d) (hp : p d = true) : xs.findIdx? p = some i := by
  have hi := (List.getElem?_eq_some_iff.mp hd).1
  rw [List.findIdx?_eq_some_iff_getElem]
  refine ⟨hi, ?_, fun j hj => ?_⟩
  · rw [List.getElem?_eq_getElem hi] at hd
    cases hd
    exact hp
  · rw [h j hj _ (List.getElem?_eq_getElem (by omega))]
    exact Bool.false_ne_true
theorem find_none {p : D → Bool} {xs : List D} (h : ∀ (j : Nat) (e : D), xs[j]? = some e → p e = false) : xs.findIdx? p = none := by
  rw [List.findIdx?_eq_none_iff]
  intro x hx
  obtain ⟨j, hj, rfl⟩ := List.mem_iff_getElem.mp hx
  exact h j _ (List.getElem?_eq_getElem hj)
/-! ### cells, rows, grids -/
def topD : D → Int
  | .tup (.int i :: _) => i
  | _ => 0
def botD : D → Int
  | .tup (_ :: .int i :: _) => i
  | _ => 0
def isPr : D → Bool
  | .tup [_, _] => true
  | _ => false
def items : D → List D
  | .tup xs => xs
  | _ => []
def hasLen : D → Bool
  | .tup xs => decide (1 ≤ xs.length) && decide (xs.length ≤ 10)
  | _ => false
def exOk (e : D) : Bool := decide (-6 ≤ topD e) && decide (topD e ≤ 6) && decide (botD e ≤ 4)
def isCl (n : Int) (x : D) : Bool := x.isNon || (isUn n x && (items x).all exOk)
def badRow (xs : List D) (e : D) : Bool := !hasLen e || decide (e.len ≠ D.len (xs.headD .non))
def badIn (n : Int) (e : D) : Bool := (items e).any fun c => !isCl n c
def wrongC (n : Int) (xs : List D) : D := match xs.findIdx? (badIn n) with
  | none => .non
  | some i => match (items (xs.getD i .non)).findIdx? (fun c => !isCl n c) with
    | none => .non
    | some j => .tup [.int i, .int j]
def wrongR (n : Int) (xs : List D) : D := match xs.findIdx? (badRow xs) with
  | some i => .tup [.int i]
  | none => wrongC n xs
def wrongD (b x : D) : D := if b.isInt && decide (1 ≤ b.toI) && decide (b.toI ≤ 3) then (if hasLen x then wrongR b.toI (items x) else .str "rows") else .str "bases"
theorem wrongD_in {n : Int} {x : D} (h1 : 1 ≤ n) (h3 : n ≤ 3) : wrongD (.int n) x = if hasLen x then wrongR n (items x) else .str "rows" := by
  unfold wrongD
  rw [if_pos]
  · rfl
  · show (true && decide (1 ≤ n) && decide (n ≤ 3)) = true
    rw [decide_eq_true h1, decide_eq_true h3]
    rfl
theorem wrongD_out {b x : D} (h : ¬ (b.isInt = true ∧ 1 ≤ b.toI ∧ b.toI ≤ 3)) : wrongD b x = .str "bases" := by
  unfold wrongD
  rw [if_neg]
  intro z
  simp only [Bool.and_eq_true, decide_eq_true_eq] at z
  exact h ⟨z.1.1, z.1.2, z.2⟩
theorem badRow_tup {xs cs ds : List D} (h : hasLen (.tup cs) = true) (e : xs.headD .non = .tup ds) : badRow xs (.tup cs) = !decide ((cs.length : Int) = ds.length) := by
  unfold badRow
  rw [h, e]
  show (!true || decide (¬ ((cs.length : Int) = ds.length))) = _
  by_cases hh : (cs.length : Int) = ds.length
  · rw [decide_eq_true hh, decide_eq_false (fun z => z hh)]
    rfl
  · rw [decide_eq_false hh, decide_eq_true hh]
    rfl
theorem fr_of {x : D} (h : isFr x = true) : ∃ p : Fr, x = fr p ∧ IsF p := by
  unfold isFr at h
  split at h
  · rename_i a b
    simp only [Bool.and_eq_true] at h
    obtain ⟨⟨⟨h1, h2⟩, h3⟩, h4⟩ := h
    obtain ⟨i, rfl⟩ := isInt_of h1
    obtain ⟨j, rfl⟩ := isInt_of h2
    exact ⟨(i, j), rfl, of_decide_eq_true h3, of_decide_eq_true h4⟩
  · cases h
theorem frs_all {xs : List D} (h : xs.all isFr = true) : ∃ u : List Fr, xs = u.map fr ∧ ∀ p ∈ u, IsF p := by
  induction xs with
  | nil => exact ⟨[], rfl, fun p hp => by cases hp⟩
  | cons x xs ih =>
    rw [List.all_cons, Bool.and_eq_true] at h
    obtain ⟨p, rfl, hp⟩ := fr_of h.1
    obtain ⟨u, rfl, hu⟩ := ih h.2
    refine ⟨p :: u, rfl, fun q hq => ?_⟩
    rcases List.mem_cons.mp hq with rfl | hq
    · exact hp
    · exact hu q hq
theorem isUn_of {n : Int} {x : D} (h : isUn n x = true) : ∃ u : List Fr, x = un u ∧ (u.length : Int) = n ∧ ∀ p ∈ u, IsF p := by
  cases x with
  | tup xs =>
    simp only [isUn, Bool.and_eq_true] at h
    obtain ⟨u, rfl, hu⟩ := frs_all h.2
    have := of_decide_eq_true h.1
    rw [List.length_map] at this
    exact ⟨u, rfl, this, hu⟩
  | _ => cases h
theorem is_un {n : Int} {x : D} (h1 : 1 ≤ n) (h3 : n ≤ 3) : (isAny x && decide (x.len = n)) = isUn n x := by
  cases x with
  | tup xs =>
    show ((decide (1 ≤ xs.length) && decide (xs.length ≤ 3) && xs.all isFr) && decide ((xs.length : Int) = n)) = (decide ((xs.length : Int) = n) && xs.all isFr)
    by_cases hn : (xs.length : Int) = n
    · rw [decide_eq_true hn, decide_eq_true (show 1 ≤ xs.length by omega), decide_eq_true (show xs.length ≤ 3 by omega)]
      cases xs.all isFr <;> rfl
    · rw [decide_eq_false hn]
      cases (decide (1 ≤ xs.length) && decide (xs.length ≤ 3) && xs.all isFr) <;> rfl
  | _ => rfl
theorem tup_of {x : D} (h : x.isTup = true) : ∃ xs, x = .tup xs := by
  cases x <;> first | exact ⟨_, rfl⟩ | cases h
theorem hasLen_of {x : D} (h : hasLen x = true) : ∃ xs, x = .tup xs ∧ 1 ≤ xs.length ∧ xs.length ≤ 10 := by
  cases x with
  | tup xs =>
    simp only [hasLen, Bool.and_eq_true, decide_eq_true_eq] at h
    exact ⟨xs, rfl, h.1, h.2⟩
  | _ => cases h
/-- what is wrong is told by plain data -/
theorem wrong_fine (b x : D) : (wrongD b x).fine = true ∧ (D.tup [wrongD b x]).fine = true := by
  have two : ∀ i j : Int, (D.tup [.int i, .int j]).lays 1 = true := fun i j => by simp [D.lays, D.laysA]
  have one : ∀ i : Int, (D.tup [.int i]).lays 1 = true := fun i => by simp [D.lays, D.laysA]
  have up : ∀ {d : D}, d.lays 1 = true → d.fine = true ∧ (D.tup [d]).fine = true := fun {d} h => ⟨lays_fine h (by decide), lays_fine (n := 2) (by simp only [D.lays, D.laysA, h, Bool.true_and]) (by decide)⟩
  unfold wrongD wrongR wrongC
  split
  · split
    · split
      · exact up (one _)
      · split
        · exact up rfl
        · split
          · exact up rfl
          · exact up (two _ _)
    · exact ⟨by decide +kernel, by decide +kernel⟩
  · exact ⟨by decide +kernel, by decide +kernel⟩
/-- a grid that is right: its rows are of units and noughts -/
structure GridOk (n : Int) (xs : List D) : Prop where
  n1 : 1 ≤ n
  n3 : n ≤ 3
  l1 : 1 ≤ xs.length
  l10 : xs.length ≤ 10
  rows : ∃ m : Nat, 1 ≤ m ∧ m ≤ 10 ∧ ∀ e ∈ xs, ∃ cs, e = .tup cs ∧ cs.length = m ∧ ∀ c ∈ cs, isCl n c = true
theorem wrong_none {b x : D} (h : wrongD b x = .non) : ∃ n xs, b = .int n ∧ x = .tup xs ∧ GridOk n xs := by
  unfold wrongD at h
  split at h
  · rename_i h1
    simp only [Bool.and_eq_true, decide_eq_true_eq] at h1
    obtain ⟨n, rfl⟩ := isInt_of h1.1.1
    split at h
    · rename_i h2
      obtain ⟨xs, rfl, l1, l10⟩ := hasLen_of h2
      refine ⟨n, xs, rfl, rfl, h1.1.2, h1.2, l1, l10, ?_⟩
      simp only [items, D.toI] at h
      unfold wrongR at h
      split at h
      · cases h
      · rename_i hr
        rw [List.findIdx?_eq_none_iff] at hr
        have hr2 : ∀ e ∈ xs, hasLen e = true ∧ e.len = D.len (xs.headD .non) := fun e he => by
          have := hr e he
          unfold badRow at this
          simp only [Bool.or_eq_false_iff, Bool.not_eq_false', decide_eq_false_iff_not, Decidable.not_not] at this
          exact this
        have hc : ∀ e ∈ xs, ∀ c ∈ items e, isCl n c = true := by
          unfold wrongC at h
          split at h
          · rename_i hn
            rw [List.findIdx?_eq_none_iff] at hn
            intro e he c hc
            have := hn e he
            unfold badIn at this
            rw [List.any_eq_false] at this
            simpa using this c hc
          · rename_i i hi
            split at h
            · rename_i hj
              rw [List.findIdx?_eq_some_iff_getElem] at hi
              obtain ⟨h3, h4, _⟩ := hi
              rw [List.findIdx?_eq_none_iff] at hj
              unfold badIn at h4
              rw [List.any_eq_true] at h4
              obtain ⟨c, hc, hc2⟩ := h4
              rw [List.getD_eq_getElem?_getD, List.getElem?_eq_getElem h3, Option.getD_some] at hj
              rw [hj c hc] at hc2
              cases hc2
            · cases h
        cases xs with
        | nil => exact absurd l1 (by decide)
        | cons y ys =>
          obtain ⟨cs, rfl, c1, c10⟩ := hasLen_of (hr2 y List.mem_cons_self).1
          refine ⟨cs.length, c1, c10, fun e he => ?_⟩
          obtain ⟨q1, q2⟩ := hr2 e he
          obtain ⟨ds, rfl, d1, d10⟩ := hasLen_of q1
          have q3 : (ds.length : Int) = cs.length := q2
          exact ⟨ds, rfl, by omega, fun c hc' => hc _ he c hc'⟩
    · cases h
  · cases h
theorem cl_lays {n : Int} {c : D} (h : isCl n c = true) : c.lays 2 = true := by
  unfold isCl at h
  rw [Bool.or_eq_true] at h
  rcases h with h | h
  · cases c <;> first | rfl | cases h
  · rw [Bool.and_eq_true] at h
    obtain ⟨u, rfl, _, _⟩ := isUn_of h.1
    refine lays_tup fun x hx => ?_
    obtain ⟨p, _, rfl⟩ := List.mem_map.mp hx
    rfl
theorem GridOk.lays {n : Int} {xs : List D} (g : GridOk n xs) : (D.tup xs).lays 4 = true := by
  obtain ⟨m, _, _, h⟩ := g.rows
  refine lays_tup fun e he => ?_
  obtain ⟨cs, rfl, _, hc⟩ := h e he
  exact lays_tup fun c hc' => cl_lays (hc c hc')
end PD
namespace PD
open PySem PySem.Spec PyProof.Rows L2
/-! ### slices -/
theorem cutD_lo (xs : List D) (i : Nat) : cutD xs none (some (i : Int)) = xs.take i := by
  unfold cutD
  rw [HT.sIx_none, HT.sIx_nat, List.drop_zero, Nat.sub_zero]
  by_cases h : i ≤ xs.length
  · rw [Nat.min_eq_left h]
  · rw [Nat.min_eq_right (by omega), List.take_length, List.take_of_length_le (by omega)]
theorem cutD_hi (xs : List D) (i : Nat) : cutD xs (some (i : Int)) none = xs.drop i := by
  unfold cutD
  rw [HT.sIx_none, HT.sIx_nat]
  by_cases h : i ≤ xs.length
  · rw [Nat.min_eq_left h]
    exact List.take_of_length_le (by rw [List.length_drop]; omega)
  · rw [Nat.min_eq_right (by omega), List.drop_of_length_le (Nat.le_refl _), List.drop_of_length_le (by omega), List.take_nil]
theorem cut_set {xs : List D} {i : Nat} (h : i < xs.length) (y : D) : cutD xs none (some (i : Int)) ++ [y] ++ cutD xs (some ((i : Int) + 1)) none = xs.set i y := by
  rw [cutD_lo, show (i : Int) + 1 = ((i + 1 : Nat) : Int) from rfl, cutD_hi, List.set_eq_take_append_cons_drop, if_pos h, List.append_assoc]
  rfl
theorem cutD_mem {xs : List D} {lo hi : Option Int} {e : D} (h : e ∈ cutD xs lo hi) : e ∈ xs := List.mem_of_mem_drop (List.mem_of_mem_take h)
theorem cutD_len (xs : List D) (lo hi : Option Int) : (cutD xs lo hi).length ≤ xs.length := by
  unfold cutD
  rw [List.length_take, List.length_drop]
  omega
theorem cl_un {n : Int} {u : List Fr} (h1 : (u.length : Int) = n) (h : ∀ p ∈ u, IsF p ∧ p.1.natAbs ≤ 6 ∧ p.2 ≤ 4) : isCl n (un u) = true := by
  unfold isCl
  rw [isUn_un h1 fun p hp => (h p hp).1, Bool.true_and, Bool.or_eq_true]
  right
  show (u.map fr).all exOk = true
  rw [List.all_map, List.all_eq_true]
  intro p hp
  have := h p hp
  show (decide (-6 ≤ p.1) && decide (p.1 ≤ 6) && decide (p.2 ≤ 4)) = true
  rw [decide_eq_true (show -6 ≤ p.1 by omega), decide_eq_true (show p.1 ≤ 6 by omega), decide_eq_true this.2.2]
  rfl
theorem cl_of {n : Int} {c : D} (h : isCl n c = true) : c = .non ∨ ∃ u : List Fr, c = un u ∧ (u.length : Int) = n ∧ ∀ p ∈ u, IsF p ∧ p.1.natAbs ≤ 6 ∧ p.2 ≤ 4 := by
  unfold isCl at h
  rw [Bool.or_eq_true, Bool.and_eq_true] at h
  rcases h with h | ⟨h, h2⟩
  · left
    cases c <;> first | rfl | cases h
  · right
    obtain ⟨u, rfl, hl, hf⟩ := isUn_of h
    refine ⟨u, rfl, hl, fun p hp => ⟨hf p hp, ?_⟩⟩
    have := List.all_eq_true.mp h2 (fr p) (List.mem_map.mpr ⟨p, hp, rfl⟩)
    have e : exOk (fr p) = (decide (-6 ≤ p.1) && decide (p.1 ≤ 6) && decide (p.2 ≤ 4)) := rfl
    rw [e] at this
    simp only [Bool.and_eq_true, decide_eq_true_eq] at this
    omega
theorem cl_gd {K : PySem.W.Frag} {n : Int} {c : D} (hn : n ≤ 3) (h : isCl n c = true) : Gd K c := by
  rcases cl_of h with rfl | ⟨u, rfl, hl, hu⟩
  · exact .non K
  · refine Gd.tup (fun x hx => ?_) (by rw [List.length_map]; omega)
    obtain ⟨p, hp, rfl⟩ := List.mem_map.mp hx
    have := hu p hp
    have := this.1.1
    exact .fr K (by omega) (by omega)
end PD
namespace PD
open PySem PySem.Spec PyProof.Rows L2
theorem bad_row0 {xs : List D} {i : Nat} {d : D} (h : ∀ j, j < i → ∀ e, xs[j]? = some e → badRow xs e = false) (hd : xs[i]? = some d) (hl : hasLen d = true) : ∃ r0 : D, xs[0]? = some r0 ∧ hasLen r0 = true ∧ xs.headD .non = r0 := by
  cases xs with
  | nil => simp at hd
  | cons y ys =>
    refine ⟨y, rfl, ?_, rfl⟩
    by_cases hi : i = 0
    · subst hi
      cases hd
      exact hl
    · have := h 0 (by omega) y rfl
      unfold badRow at this
      simp only [Bool.or_eq_false_iff, Bool.not_eq_false'] at this
      exact this.1
end PD
namespace PD
open PySem PySem.Spec PyProof.Rows L2
/-- a word of a test's answer, ahead of what goes on -/
theorem et_mid {W : Wd} {δ : DS} {t : TT} {P : Bool → Prop} (Mid : Bool → Prop) (h : EvT W t δ Mid) (k : ∀ b, Mid b → P b) : EvT W t δ P := fun M σ H p Q q => h M σ H p Q fun b H' g kk m => q b H' g kk (k b m)
theorem ev_mid {W : Wd} {δ : DS} {t : TE} {P : D → Prop} (Mid : D → Prop) (h : EvD W t δ Mid) (k : ∀ d, Mid d → P d) : EvD W t δ P := fun M σ H p Q q => h M σ H p Q fun v d H' g kk r m => q v d H' g kk r (k d m)
end PD
namespace PD
open PySem PySem.Spec PyProof.Rows L2
open PDX PDI PDT
abbrev Om := List (Addr × List D)
def Own (W : Wd) (M0 M : Addr → Prop) (H : Hp) (ω : Om) : Prop := ∀ a ds, (a, ds) ∈ ω → M a ∧ ¬ M0 a ∧ W.s ≠ some a ∧ (∀ s, W.s = some s → W.b ≠ a) ∧ ∃ vs, H a = some (.lst vs) ∧ Reps W M H vs ds
/-- from where a loop began: its own lists may have changed -/
structure EntM (W : Wd) (M1 : Addr → Prop) (H1 : Hp) (M : Addr → Prop) (H : Hp) : Prop where
  k : KeepM W M1 H1 H
  m : ∀ a, M1 a → M a
  new : ∀ a, M a → ¬ M1 a → H1 a = none
/-- from the entry, and from the loop -/
structure In2 (W : Wd) (M0 : Addr → Prop) (H0 : Hp) (M1 : Addr → Prop) (H1 : Hp) (M : Addr → Prop) (H : Hp) : Prop where
  e : Ent W M0 H0 M H
  l : EntM W M1 H1 M H
structure OutsO (W : Wd) (Wx : WX) (M0 : Addr → Prop) (H0 : Hp) (M1 : Addr → Prop) (H1 : Hp) (N : Om → DS → Prop) (R : D → Prop) (B C : Om → DS → Prop) (X : XV → DS → Prop) (E : Ends) : Prop where
  nx : ∀ M σ ω δ H, Pre W M δ σ H → Own W M0 M H ω → In2 W M0 H0 M1 H1 M H → N ω δ → E.nx σ H
  rt : ∀ v d H, StOk W H → Keep W H0 H → Rep W M0 H v d → R d → E.rt v H
  bk : ∀ M σ ω δ H, Pre W M δ σ H → Own W M0 M H ω → In2 W M0 H0 M1 H1 M H → B ω δ → E.bk σ H
  ct : ∀ M σ ω δ H, Pre W M δ σ H → Own W M0 M H ω → In2 W M0 H0 M1 H1 M H → C ω δ → E.ct σ H
  xw : ∀ M σ δ H cls d x, Pre W M δ σ H → Ent W M0 H0 M H → XRep W M H cls d x → X x δ → Wx cls d σ H
def SO (W : Wd) (Wx : WX) (ts : TS) (ω : Om) (δ : DS) (N : Om → DS → Prop) (R : D → Prop) (B C : Om → DS → Prop) (X : XV → DS → Prop) : Prop :=
  ∀ (M0 : Addr → Prop) (H0 : Hp) (M1 : Addr → Prop) (H1 : Hp) (M : Addr → Prop) (σ : L2.St) (H : Hp) (E : Ends), (∀ a, M0 a → ∃ o, H0 a = some o) → Pre W M δ σ H → Own W M0 M H ω → In2 W M0 H0 M1 H1 M H → OutsO W Wx M0 H0 M1 H1 N R B C X E → ts E σ H
section
variable {W : Wd} {Wx : WX} {X : XV → DS → Prop} {ω : Om} {δ : DS} {N : Om → DS → Prop} {R : D → Prop} {B C : Om → DS → Prop} {te tl : TE} {t : TT} {ts tu : TS} {ta : TA} {g : TG}
theorem Ent.refl (M : Addr → Prop) (H : Hp) : Ent W M H M H := ⟨Keep.refl _, fun _ x => x, fun _ x y => absurd x y⟩
theorem Ent.trans {M0 M M2 : Addr → Prop} {H0 H H2 : Hp} (wf : Wf W M H) (e : Ent W M0 H0 M H) (x : Ent W M H M2 H2) : Ent W M0 H0 M2 H2 := ⟨e.k.trans x.k, fun a ha => x.m a (e.m a ha), fun a ha hn => by
  by_cases hM : M a
  · exact e.new a hM hn
  · have h1 := x.new a ha hM
    cases h0 : H0 a with
    | none => rfl
    | some oo =>
      rw [e.k a oo (fun z => hM (wf.sm a z)) h0] at h1
      cases h1⟩
theorem EntM.refl (M : Addr → Prop) (H : Hp) : EntM W M H M H := ⟨fun _ _ _ _ h => h, fun _ x => x, fun _ x y => absurd x y⟩
theorem EntM.trans {M0 M M2 : Addr → Prop} {H0 H H2 : Hp} (e : EntM W M0 H0 M H) (x : EntM W M H M2 H2) (wf : Wf W M H) : EntM W M0 H0 M2 H2 := ⟨fun a o n l h => x.k a o n (fun ma => by
    by_cases m0 : M0 a
    · exact l m0
    · rw [e.new a ma m0] at h
      cases h) (e.k a o n l h), fun a ha => x.m a (e.m a ha), fun a ha hn => by
  by_cases hM : M a
  · exact e.new a hM hn
  · have h1 := x.new a ha hM
    cases h0 : H0 a with
    | none => rfl
    | some oo =>
      rw [e.k a oo (fun z => hM (wf.sm a z)) (fun z => absurd z hn) h0] at h1
      cases h1⟩
theorem Ent.toM {M M2 : Addr → Prop} {H H2 : Hp} (x : Ent W M H M2 H2) : EntM W M H M2 H2 := ⟨x.k.toM, x.m, x.new⟩
theorem In2.trans {M0 M1 M M2 : Addr → Prop} {H0 H1 H H2 : Hp} (e : In2 W M0 H0 M1 H1 M H) (wf : Wf W M H) (x : Ent W M H M2 H2) : In2 W M0 H0 M1 H1 M2 H2 := ⟨e.e.trans wf x, e.l.trans x.toM wf⟩
theorem In2.next {M0 M1 M : Addr → Prop} {H0 H1 H H2 : Hp} (e : In2 W M0 H0 M1 H1 M H) (wf : Wf W M H) (k : Keep W H H2) : In2 W M0 H0 M1 H1 M H2 := e.trans wf ⟨k, fun _ x => x, fun _ x y => absurd x y⟩
theorem Own.move {M0 M M' : Addr → Prop} {H H' : Hp} (wf : Wf W M H) (wf' : Wf W M' H') (o : Own W M0 M H ω) (e : Ent W M H M' H') : Own W M0 M' H' ω := fun a ds m => by
  obtain ⟨h1, h2, h3, hb, vs, h4, h5⟩ := o a ds m
  exact ⟨e.m a h1, h2, h3, hb, vs, e.k a _ h3 h4, (h5.more e.new).keepG ⟨wf.g, fun a z => e.m a (wf.sm a z)⟩ e.k⟩
theorem Own.keep {M0 M : Addr → Prop} {H H' : Hp} (wf : Wf W M H) (o : Own W M0 M H ω) (k : Keep W H H') : Own W M0 M H' ω := fun a ds m => by
  obtain ⟨h1, h2, h3, hb, vs, h4, h5⟩ := o a ds m
  exact ⟨h1, h2, h3, hb, vs, k a _ h3 h4, h5.keep wf k⟩
/-- a statement that changes none of these lists -/
theorem so_lift (h : SX W Wx ts δ (N ω) R (B ω) (C ω) X) : SO W Wx ts ω δ N R B C X := fun M0 H0 M1 L1 M σ H E d0 p ow e o =>
  h M H M σ H E p (Ent.refl M H) ⟨fun M' σ' δ' H' p' e' x => o.nx M' σ' ω δ' H' p' (ow.move p.wf p'.wf e') (e.trans p.wf e') x, fun v d H' g k r x => o.rt v d H' g (e.e.k.trans k) (r.anti e.e.m) x,
    fun M' σ' δ' H' p' e' x => o.bk M' σ' ω δ' H' p' (ow.move p.wf p'.wf e') (e.trans p.wf e') x, fun M' σ' δ' H' p' e' x => o.ct M' σ' ω δ' H' p' (ow.move p.wf p'.wf e') (e.trans p.wf e') x,
    fun M' σ' δ' H' cls d x p' e' rx hx => o.xw M' σ' δ' H' cls d x p' (e.e.trans p.wf e') rx hx⟩
theorem so_seq (h : SO W Wx ts ω δ (fun ω' δ' => SO W Wx tu ω' δ' N R B C X) R B C X) : SO W Wx (tSeq ts tu) ω δ N R B C X := fun M0 H0 M1 L1 M σ H E d0 p ow e o =>
  h M0 H0 M1 L1 M σ H { E with nx := tu E } d0 p ow e ⟨fun M' σ' ω' δ' H' p' ow' e' hN => hN M0 H0 M1 L1 M' σ' H' E d0 p' ow' e' o, o.rt, o.bk, o.ct, o.xw⟩
theorem so_mono {N' : Om → DS → Prop} (h : SO W Wx ts ω δ N R B C X) (hN : ∀ ω δ, N ω δ → N' ω δ) : SO W Wx ts ω δ N' R B C X := fun M0 H0 M1 L1 M σ H E d0 p ow e o =>
  h M0 H0 M1 L1 M σ H E d0 p ow e ⟨fun M' σ' ω' δ' H' p' ow' e' x => o.nx M' σ' ω' δ' H' p' ow' e' (hN _ _ x), o.rt, o.bk, o.ct, o.xw⟩
theorem so_cut (Mid : Om → DS → Prop) (h : SO W Wx ts ω δ Mid R B C X) (k : ∀ ω' δ', Mid ω' δ' → SO W Wx tu ω' δ' N R B C X) : SO W Wx (tSeq ts tu) ω δ N R B C X := so_seq (so_mono h k)
theorem so_next (h : N ω δ) : SO W Wx tNext ω δ N R B C X := fun M0 H0 M1 L1 M σ H E d0 p ow e o => o.nx M σ ω δ H p ow e h
theorem so_if (h : EvT W t δ fun b => (b = true → SO W Wx ts ω δ N R B C X) ∧ (b = false → SO W Wx tu ω δ N R B C X)) : SO W Wx (tIfS t ts tu) ω δ N R B C X := fun M0 H0 M1 L1 M σ H E d0 p ow e o =>
  h M σ H p _ fun b H1 g1 k1 h1 => by
    cases b with
    | true =>
      rw [if_pos rfl]
      exact h1.1 rfl M0 H0 M1 L1 M σ H1 E d0 (p.next g1 k1) (ow.keep p.wf k1) (e.next p.wf k1) o
    | false =>
      rw [if_neg Bool.false_ne_true]
      exact h1.2 rfl M0 H0 M1 L1 M σ H1 E d0 (p.next g1 k1) (ow.keep p.wf k1) (e.next p.wf k1) o
theorem so_asg {i : Nat} (h : EvD W te δ fun d => N ω (δ.set i (some d))) : SO W Wx (tAsg te (gName i)) ω δ N R B C X := so_lift (sd_asg h)
/-- a new list of one's own -/
theorem so_new {i : Nat} (h : EvA W ta δ fun ds => ds.length ≤ 100000 ∧ ∀ p, (∀ x ∈ ω, x.1 ≠ p) → N ((p, ds) :: ω) (δ.set i (some (.obj p)))) : SO W Wx (tAsg (tLst ta) (gName i)) ω δ N R B C X := fun M0 H0 M1 L1 M σ H E d0 p ow e o =>
  h M σ H p _ fun vs ds H1 g1 k1 r1 ⟨hl, hP⟩ => ⟨len_ok (by rw [r1.length]; exact hl), fun a ha => by
    have p1 := p.next g1 k1
    have k2 : Keep W H1 (upd H1 a (.lst vs)) := Keep.new ha
    have g2 : StOk W (upd H1 a (.lst vs)) := g1.new ha
    have ns : W.s ≠ some a := fun z => by
      obtain ⟨_, _, _, _, q, _⟩ := g1 a z
      rw [ha] at q
      cases q
    have off0 : H0 a = none := by
      cases h0 : H0 a with
      | none => rfl
      | some oo =>
        rw [(e.e.k.trans k1) a oo ns h0] at ha
        cases ha
    have n0 : ¬ M0 a := fun z => by
      obtain ⟨oo, ho⟩ := d0 a z
      rw [off0] at ho
      cases ho
    let M' : Addr → Prop := fun b => M b ∨ b = a
    have e2 : Ent W M H1 M' (upd H1 a (.lst vs)) := ⟨k2, fun _ x => .inl x, fun b x y => by
      rcases x with x | x
      · exact absurd x y
      · rw [x]; exact ha⟩
    have wf' : Wf W M' (upd H1 a (.lst vs)) := ⟨g2, fun b z => .inl (p1.wf.sm b z), fun b x => by
      rcases x with x | x
      · exact (p1.wf.next g2 k2).dom b x
      · rw [x]; exact ⟨_, upd_same⟩⟩
    have wg' : Wg W M' H1 := ⟨g1, fun b z => .inl (p1.wf.sm b z)⟩
    have sl : Slots W M' (upd H1 a (.lst vs)) σ δ := ⟨p1.sl.len, fun j d hd => by
      obtain ⟨v, a1, a2⟩ := p1.sl.get j d hd
      exact ⟨v, a1, (a2.more e2.new).keepG wg' k2⟩⟩
    refine o.nx M' _ ((a, ds) :: ω) _ _ ⟨wf', sl.set i (.obj a)⟩ (fun b es m => ?_) ((e.next p.wf k1).trans p1.wf e2) (hP a fun x hx z => ?_)
    · rcases List.mem_cons.mp m with m | m
      · cases m
        exact ⟨.inr rfl, n0, ns, fun s hs z => (by
          obtain ⟨_, _, _, _, _, _, q, _⟩ := g1 s hs
          rw [z, ha] at q
          cases q), vs, upd_same, (r1.more e2.new).keepG wg' k2⟩
      · exact (ow.keep p.wf k1).move p1.wf wf' e2 b es m
    · obtain ⟨_, _, _, _, vs', q, _⟩ := (ow.keep p.wf k1) x.1 x.2 hx
      rw [z, ha] at q
      cases q⟩
/-- an item's data, as a list holds them -/
def putO (ω : Om) (a : Addr) (f : List D → List D) : Om := ω.map fun x => if x.1 = a then (x.1, f x.2) else x
theorem mem_putO {a b : Addr} {f : List D → List D} {es : List D} (h : (b, es) ∈ putO ω a f) : ∃ ds, (b, ds) ∈ ω ∧ es = if b = a then f ds else ds := by
  obtain ⟨⟨c, ds⟩, h1, h2⟩ := List.mem_map.mp h
  by_cases hc : c = a
  · simp only [hc, if_pos] at h2
    cases h2
    rw [hc] at h1
    exact ⟨ds, h1, by rw [if_pos rfl]⟩
  · simp only [hc, if_false] at h2
    cases h2
    exact ⟨_, h1, by rw [if_neg hc]⟩
theorem Reps.setR {W : Wd} {M : Addr → Prop} {H : Hp} : ∀ {vs : List V} {ds : List D} (j : Nat) {v : V} {d : D}, Reps W M H vs ds → Rep W M H v d → Reps W M H (vs.set j v) (ds.set j d)
  | _, _, _, _, _, .nil, _ => .nil
  | _, _, 0, _, _, .cons _ t, r => .cons r t
  | _, _, j + 1, _, _, .cons x t, r => .cons x (t.setR j r)
/-- a list of one's own is changed -/
theorem own_upd {M0 M1 M : Addr → Prop} {H0 L1 H : Hp} {σ : L2.St} {a : Addr} {ds : List D} {us : List V} {f : List D → List D} (p : Pre W M δ σ H) (ow : Own W M0 M H ω) (e : In2 W M0 H0 M1 L1 M H) (d0 : ∀ a, M0 a → ∃ o, H0 a = some o) (hm : (a, ds) ∈ ω)
    (hr : ∀ ds, (a, ds) ∈ ω → Reps W M H us (f ds)) : Pre W M δ σ (upd H a (.lst us)) ∧ Own W M0 M (upd H a (.lst us)) (putO ω a f) ∧ In2 W M0 H0 M1 L1 M (upd H a (.lst us)) := by
  obtain ⟨hM, n0, ns, nb, vs, ha, _⟩ := ow a ds hm
  have up : ∀ {v : V} {d : D}, Rep W M H v d → Rep W M (upd H a (.lst us)) v d := fun r => r.upd (rdT_lst ha) hM
  have ups : ∀ {v : List V} {d : List D}, Reps W M H v d → Reps W M (upd H a (.lst us)) v d := fun r => r.upd (rdT_lst ha) hM
  have gg : StOk W (upd H a (.lst us)) := fun s hs => by
    obtain ⟨n1, i1, c1, m1, a1, a2, a3, a4⟩ := p.wf.g s hs
    exact ⟨n1, i1, c1, m1, by rw [upd_ne (fun z => ns (by rw [hs, z]))]; exact a1, a2, by rw [upd_ne (nb s hs)]; exact a3, a4⟩
  have off : H0 a = none := by
    by_cases z : M0 a
    · exact absurd z n0
    · exact e.e.new a hM z
  refine ⟨⟨⟨gg, p.wf.sm, fun b hb => ?_⟩, p.sl.len, fun j d hd => ?_⟩, fun b es m => ?_, ⟨⟨fun b o nsb hb => ?_, e.e.m, e.e.new⟩, ⟨fun b o nsb nl hb => ?_, e.l.m, e.l.new⟩⟩⟩
  · by_cases z : b = a
    · exact ⟨_, by rw [z]; exact upd_same⟩
    · obtain ⟨o, ho⟩ := p.wf.dom b hb
      exact ⟨o, by rw [upd_ne z]; exact ho⟩
  · obtain ⟨v, h1, h2⟩ := p.sl.get j d hd
    exact ⟨v, h1, up h2⟩
  · obtain ⟨ds', h1, rfl⟩ := mem_putO m
    obtain ⟨x1, x2, x3, x4, vs', x5, x6⟩ := ow b ds' h1
    by_cases z : b = a
    · subst z
      rw [if_pos rfl]
      exact ⟨x1, x2, x3, x4, us, upd_same, ups (hr ds' h1)⟩
    · rw [if_neg z]
      exact ⟨x1, x2, x3, x4, vs', by rw [upd_ne z]; exact x5, ups x6⟩
  · have z : b ≠ a := fun z => by rw [z, off] at hb; cases hb
    rw [upd_ne z]
    exact e.e.k b o nsb hb
  · have kept := e.l.k b o nsb nl hb
    have z : b ≠ a := fun z => by
      subst z
      rw [ha] at kept
      cases kept
      by_cases m1 : M1 b
      · exact nl m1 _ rfl
      · rw [e.l.new b hM m1] at hb
        cases hb
    rw [upd_ne z]
    exact kept
/-- xs.append(e) -/
theorem so_app {i : Nat} {a : Addr} {ds : List D} (hi : δ[i]? = some (some (.obj a))) (hm : (a, ds) ∈ ω) (hu : ∀ es, (a, es) ∈ ω → es.length < 100000) (h : EvA W ta δ fun xs => ∃ d, xs = [d] ∧ N (putO ω a fun es => es ++ [d]) δ) : SO W Wx (tDrop (tBM W.K "list" rAppend (tVar i) ta)) ω δ N R B C X := fun M0 H0 M1 L1 M σ H E d0 p ow e o => by
  obtain ⟨v, s1, r1⟩ := p.sl.get i _ hi
  cases r1
  obtain ⟨hM, n0, ns, nb, vs, ha, rr⟩ := ow a ds hm
  refine ⟨_, s1, .inl ⟨rfl, _, SqL.of ha⟩, h M σ H p _ fun us xs H1 g1 k1 r1 h1 => ?_⟩
  obtain ⟨d, rfl, hN⟩ := h1
  cases r1 with
  | cons r1 r2 =>
    cases r2
    have ha1 := k1 a _ ns ha
    refine ⟨a, vs, _, rfl, rfl, ha1, ?_, ?_⟩
    · rw [rr.length]
      exact Nat.lt_of_lt_of_le (hu ds hm) (by decide)
    · have one : ∀ es, (a, es) ∈ ω → Reps W M H1 (vs ++ [_]) (es ++ [d]) := fun es m => by
        obtain ⟨_, _, _, _, vs', q1, q2⟩ := ow a es m
        rw [ha] at q1
        cases q1
        exact (q2.keep p.wf k1).append (.cons r1 .nil)
      obtain ⟨x1, x2, x3⟩ := own_upd (f := fun es => es ++ [d]) (p.next g1 k1) (ow.keep p.wf k1) (e.next p.wf k1) d0 hm one
      exact o.nx M _ _ _ _ x1 x2 x3 hN
/-- xs[k] = e -/
theorem so_set {i j : Nat} {a : Addr} {ds : List D} {ti : TE} (hi : δ[i]? = some (some (.obj a))) (hm : (a, ds) ∈ ω) (h : EvD W te δ fun d => EvD W ti δ fun x => x = .int (j : Int) ∧ (∀ es, (a, es) ∈ ω → j < es.length) ∧ N (putO ω a fun es => es.set j d) δ) : SO W Wx (tAsg te (gSub (tVar i) ti rSetL)) ω δ N R B C X := fun M0 H0 M1 L1 M σ H E d0 p ow e o => by
  obtain ⟨v, s1, r1⟩ := p.sl.get i _ hi
  cases r1
  obtain ⟨hM, n0, ns, nb, vs, ha, rr⟩ := ow a ds hm
  refine h M σ H p _ fun v d H1 g1 k1 r1 h1 => ⟨_, s1, ?_⟩
  have p1 := p.next g1 k1
  refine h1 M σ H1 p1 _ fun u x H2 g2 k2 r2 h2 => ?_
  obtain ⟨rfl, hj, hN⟩ := h2
  cases r2
  have k12 := k1.trans k2
  have ha2 := k12 a _ ns ha
  have hl : j < vs.length := by rw [rr.length]; exact hj ds hm
  refine ⟨a, vs, j, j, rfl, rfl, ha2, ?_, ?_⟩
  · unfold ixN
    simp
    omega
  · have one : ∀ es, (a, es) ∈ ω → Reps W M H2 (vs.set j v) (es.set j d) := fun es m => by
      obtain ⟨_, _, _, _, vs', q1, q2⟩ := ow a es m
      rw [ha] at q1
      cases q1
      exact ((q2.keep p.wf k1).keep p1.wf k2).setR j (r1.keep p1.wf k2)
    obtain ⟨x1, x2, x3⟩ := own_upd (f := fun es => es.set j d) (p1.next g2 k2) (ow.keep p.wf k12) (e.next p.wf k12) d0 hm one
    exact o.nx M _ _ _ _ x1 x2 x3 hN
/-- for, over what is none of these lists -/
theorem so_for {wi : TI} (h : IterD W wi δ fun ds => ∃ Inv : Nat → Om → DS → Prop, Inv 0 ω δ ∧ (∀ i d ω' δ', ds[i]? = some d → Inv i ω' δ' → ∃ js, GD W g d δ' js fun δ2 => SO W Wx ts ω' δ2 (Inv (i + 1)) R N (Inv (i + 1)) X) ∧ ∀ ω' δ', Inv ds.length ω' δ' → N ω' δ') : SO W Wx (tFor wi g ts) ω δ N R B C X := fun M0 H0 M1 L1 M σ H E d0 p ow e o =>
  h M σ H p _ fun J H1 ds g1 k1 ⟨I, i0, it, ie⟩ src => by
    have p1 := p.next g1 k1
    refine ⟨fun i m σ' H' => m = ds.length - i ∧ i ≤ ds.length ∧ ∃ M' ω' δ', Pre W M' δ' σ' H' ∧ Own W M0 M' H' ω' ∧ Ent W M0 H0 M' H' ∧ EntM W M H1 M' H' ∧ I i ω' δ', ⟨_, rfl, Nat.zero_le _, M, ω, δ, p1, ow.keep p.wf k1, (e.next p.wf k1).e, EntM.refl M H1, i0⟩, ?_⟩
    rintro i m σ' H' ⟨rfl, hi, M', ω', δ', p', ow', e', l', hI⟩
    have base : ∀ {M2 : Addr → Prop} {H2 : Hp}, In2 W M0 H0 M H1 M2 H2 → In2 W M0 H0 M1 L1 M2 H2 := fun x => ⟨x.e, (e.next p.wf k1).l.trans x.l p1.wf⟩
    obtain ⟨s1, s2⟩ := src M' l'.m l'.new i H' l'.k p'.wf.g
    by_cases hlt : i < ds.length
    · obtain ⟨hgo, hy⟩ := s2 ds[i] (List.getElem?_eq_getElem hlt)
      refine .inr ⟨hgo, fun σ2 H2 => ∃ M2 ω2 δ2, Pre W M2 δ2 σ2 H2 ∧ Own W M0 M2 H2 ω2 ∧ In2 W M0 H0 M H1 M2 H2 ∧ I (i + 1) ω2 δ2, ?_, fun x H3 y => ?_⟩
      · rintro σ2 H2 ⟨M2, ω2, δ2, q1, q2, q3, q4⟩
        exact ⟨_, by omega, rfl, hlt, M2, ω2, δ2, q1, q2, q3.e, q3.l, q4⟩
      · obtain ⟨g3, k3, r3⟩ := hy x H3 y
        obtain ⟨js, hg⟩ := it i ds[i] ω' δ' (List.getElem?_eq_getElem hlt) hI
        refine hg M' σ' H3 x (p'.next g3 k3) r3 _ fun σ4 δ4 p4 hb _ => ?_
        exact hb M0 H0 M H1 M' σ4 H3 _ d0 p4 (ow'.keep p'.wf k3) (In2.next ⟨e', l'⟩ p'.wf k3) ⟨fun M5 σ5 ω5 δ5 H5 p5 ow5 e5 x5 => ⟨M5, ω5, δ5, p5, ow5, e5, x5⟩, o.rt, fun M5 σ5 ω5 δ5 H5 p5 ow5 e5 x5 => o.nx M5 σ5 ω5 δ5 H5 p5 ow5 (base e5) x5, fun M5 σ5 ω5 δ5 H5 p5 ow5 e5 x5 => ⟨M5, ω5, δ5, p5, ow5, e5, x5⟩, o.xw⟩
    · have ee : i = ds.length := by omega
      refine .inl ⟨s1 ee, o.nx M' σ' ω' δ' H' p' ow' (base ⟨e', l'⟩) (ie ω' δ' ?_)⟩
      rw [← ee]
      exact hI
/-! ### these lists, lent to be read -/

mutual
def D.nref : D → Bool
  | .non | .bl _ | .int _ | .str _ | .ty _ | .obj _ => true
  | .tup xs => D.nrefs xs
  | _ => false
def D.nrefs : List D → Bool
  | [] => true
  | x :: xs => x.nref && D.nrefs xs
end
mutual
theorem Rep.nref {M M2 : Addr → Prop} {H : Hp} : ∀ {v : V} {d : D}, Rep W M H v d → d.nref = true → Rep W M2 H v d
  | _, _, .non, _ => .non
  | _, _, .bl b, _ => .bl b
  | _, _, .int i, _ => .int i
  | _, _, .str x, _ => .str x
  | _, _, .ty n, _ => .ty n
  | _, _, .tup hs r, h => .tup hs (r.nref (by simpa [D.nref] using h))
  | _, _, .lst _ _ _, h => by simp [D.nref] at h
  | _, _, .st _, h => by simp [D.nref] at h
  | _, _, .obj a, _ => .obj a
  | _, _, .dct _ _, h => by simp [D.nref] at h
  | _, _, .rng _ _, h => by simp [D.nref] at h
  | _, _, .ins _ _ _ _, h => by simp [D.nref] at h
  | _, _, .exc _ _ _ _, h => by simp [D.nref] at h
  | _, _, .xob0 _ _, h => by simp [D.nref] at h
  | _, _, .xob _ _ _ _ _ _, h => by simp [D.nref] at h
  | _, _, .dic _ _ _ _, h => by simp [D.nref] at h
theorem Reps.nref {M M2 : Addr → Prop} {H : Hp} : ∀ {vs : List V} {ds : List D}, Reps W M H vs ds → D.nrefs ds = true → Reps W M2 H vs ds
  | _, _, .nil, _ => .nil
  | _, _, .cons r t, h => by
    simp only [D.nrefs, Bool.and_eq_true] at h
    exact .cons (r.nref h.1) (t.nref h.2)
end
theorem nrefs_of {xs : List D} (h : ∀ x ∈ xs, x.nref = true) : D.nrefs xs = true := by
  induction xs with
  | nil => simp only [D.nrefs]
  | cons y ys ih =>
    simp only [D.nrefs, Bool.and_eq_true]
    exact ⟨h y List.mem_cons_self, ih fun x hx => h x (List.mem_cons_of_mem _ hx)⟩
theorem nref_tup {xs : List D} (h : ∀ x ∈ xs, x.nref = true) : (D.tup xs).nref = true := by simp only [D.nref]; exact nrefs_of h
theorem nref_fr (p : Fr) : (fr p).nref = true := by simp [D.nref, D.nrefs]
theorem nref_un (u : List Fr) : (un u).nref = true := nref_tup fun x hx => by
  obtain ⟨p, _, rfl⟩ := List.mem_map.mp hx
  exact nref_fr p
def Lent (W : Wd) (M : Addr → Prop) (H : Hp) (ω : Om) : Prop := ∀ a ds, (a, ds) ∈ ω → ¬ M a ∧ ∃ vs, H a = some (.lst vs) ∧ Reps W M H vs ds
def EvL (W : Wd) (te : TE) (ω : Om) (δ : DS) (P : D → Prop) : Prop := ∀ (M : Addr → Prop) (σ : L2.St) (H : Hp), Pre W M δ σ H → Lent W M H ω → ∀ Q : VK, (∀ v d H', StOk W H' → Keep W H H' → Rep W M H' v d → P d → Q v H') → te σ H Q
def EvTL (W : Wd) (tt : TT) (ω : Om) (δ : DS) (P : Bool → Prop) : Prop := ∀ (M : Addr → Prop) (σ : L2.St) (H : Hp), Pre W M δ σ H → Lent W M H ω → ∀ Q : Bool → Hp → Prop, (∀ b H', StOk W H' → Keep W H H' → P b → Q b H') → tt σ H Q
theorem evl_ev {P : D → Prop} (h : EvD W te δ P) : EvL W te ω δ P := fun M σ H p _ Q q => h M σ H p Q q
theorem evtl_ev {P : Bool → Prop} (h : EvT W t δ P) : EvTL W t ω δ P := fun M σ H p _ Q q => h M σ H p Q q
theorem lent_put {M : Addr → Prop} {σ : L2.St} {H : Hp} {i : Nat} {a : Addr} {ds : List D} (hi : δ[i]? = some (some (.obj a))) (hm : (a, ds) ∈ ω) (p : Pre W M δ σ H) (l : Lent W M H ω) : Pre W M (δ.set i (some (.lst ds))) σ H := by
  obtain ⟨n, vs, ha, r⟩ := l a ds hm
  refine ⟨p.wf, by rw [List.length_set]; exact p.sl.len, fun j d hd => ?_⟩
  by_cases z : i = j
  · subst z
    obtain ⟨v, h1, h2⟩ := p.sl.get i _ hi
    cases h2
    have hl := (List.getElem?_eq_some_iff.mp hi).1
    rw [List.getElem?_set_self hl] at hd
    cases hd
    exact ⟨_, h1, .lst n ha r⟩
  · rw [List.getElem?_set_ne z] at hd
    exact p.sl.get j d hd
theorem evl_put {P : D → Prop} {a : Addr} {ds : List D} (i : Nat) (hi : δ[i]? = some (some (.obj a))) (hm : (a, ds) ∈ ω) (h : EvL W te ω (δ.set i (some (.lst ds))) P) : EvL W te ω δ P := fun M σ H p l Q q => h M σ H (lent_put hi hm p l) l Q q
theorem evtl_put {P : Bool → Prop} {a : Addr} {ds : List D} (i : Nat) (hi : δ[i]? = some (some (.obj a))) (hm : (a, ds) ∈ ω) (h : EvTL W t ω (δ.set i (some (.lst ds))) P) : EvTL W t ω δ P := fun M σ H p l Q q => h M σ H (lent_put hi hm p l) l Q q
theorem own_lend {M0 M : Addr → Prop} {σ : L2.St} {H : Hp} (p : Pre W M δ σ H) (ow : Own W M0 M H ω) : Pre W (fun a => M a ∧ ∀ x ∈ ω, x.1 ≠ a) δ σ H ∧ Lent W (fun a => M a ∧ ∀ x ∈ ω, x.1 ≠ a) H ω := by
  have less : ∀ a, (M a ∧ ∀ x ∈ ω, x.1 ≠ a) → M a := fun a x => x.1
  refine ⟨⟨⟨p.wf.g, fun a z => ⟨p.wf.sm a z, fun x hx e => ?_⟩, fun a x => p.wf.dom a x.1⟩, p.sl.len, fun j d hd => ?_⟩, fun a ds m => ?_⟩
  · obtain ⟨_, _, ns, _⟩ := ow x.1 x.2 hx
    exact ns (by rw [e]; exact z)
  · obtain ⟨v, h1, h2⟩ := p.sl.get j d hd
    exact ⟨v, h1, h2.anti less⟩
  · obtain ⟨_, _, _, _, vs, ha, r⟩ := ow a ds m
    exact ⟨fun z => z.2 _ m rfl, vs, ha, r.anti less⟩
theorem so_asgL {i : Nat} (h : EvL W te ω δ fun d => d.nref = true ∧ N ω (δ.set i (some d))) : SO W Wx (tAsg te (gName i)) ω δ N R B C X := fun M0 H0 M1 L1 M σ H E d0 p ow e o => by
  obtain ⟨p2, l2⟩ := own_lend p ow
  exact h _ σ H p2 l2 _ fun v d H1 g1 k1 r1 h1 => o.nx M _ ω _ H1 ⟨p.wf.next g1 k1, (p.next g1 k1).sl.set i (r1.nref h1.1)⟩ (ow.keep p.wf k1) (e.next p.wf k1) h1.2
theorem so_retL (h : EvL W te ω δ fun d => d.nref = true ∧ R d) : SO W Wx (tRet te) ω δ N R B C X := fun M0 H0 M1 L1 M σ H E d0 p ow e o => by
  obtain ⟨p2, l2⟩ := own_lend p ow
  exact h _ σ H p2 l2 _ fun v d H1 g1 k1 r1 h1 => o.rt v d H1 g1 (e.e.k.trans k1) (r1.nref h1.1) h1.2
theorem so_ifL (h : EvTL W t ω δ fun b => (b = true → SO W Wx ts ω δ N R B C X) ∧ (b = false → SO W Wx tu ω δ N R B C X)) : SO W Wx (tIfS t ts tu) ω δ N R B C X := fun M0 H0 M1 L1 M σ H E d0 p ow e o => by
  obtain ⟨p2, l2⟩ := own_lend p ow
  refine h _ σ H p2 l2 _ fun b H1 g1 k1 h1 => ?_
  cases b with
  | true =>
    rw [if_pos rfl]
    exact h1.1 rfl M0 H0 M1 L1 M σ H1 E d0 (p.next g1 k1) (ow.keep p.wf k1) (e.next p.wf k1) o
  | false =>
    rw [if_neg Bool.false_ne_true]
    exact h1.2 rfl M0 H0 M1 L1 M σ H1 E d0 (p.next g1 k1) (ow.keep p.wf k1) (e.next p.wf k1) o
/-- such a list is returned: it is one's own no more -/
theorem so_retO {i : Nat} {a : Addr} {ds : List D} (hi : δ[i]? = some (some (.obj a))) (hm : (a, ds) ∈ ω) (h : R (.lst ds)) : SO W Wx (tRet (tVar i)) ω δ N R B C X := fun M0 H0 M1 L1 M σ H E d0 p ow e o => by
  obtain ⟨v, s1, r1⟩ := p.sl.get i _ hi
  cases r1
  obtain ⟨hM, n0, ns, nb, vs, ha, rr⟩ := ow a ds hm
  exact ⟨_, s1, o.rt _ (.lst ds) H p.wf.g e.e.k (.lst n0 ha (rr.anti e.e.m)) h⟩
end
/-! ### bodies -/
theorem body_ofO {K : PySem.W.Frag} {F : FD} {vs : List V} {H : Hp} {Q : VK} {E : XK} {N : List Str} {t : TS} (h : spD K F vs H Q E)
    (hb : ∀ W ds P, W.K = K → F ds P → SO W WF t [] (startD N.length ds) (fun _ _ => P .non) P (fun _ _ => False) (fun _ _ => False) XN) : t { nx := fun _ H' => Q .non H', rt := Q } (L2.start N vs) H := by
  obtain ⟨W, M, ds, P, e, w, r, f, q⟩ := h
  exact hb W ds P e f M H M H M _ H _ w.dom ⟨w, start_slots N r⟩ (fun a ds m => by cases m) ⟨Ent.refl M H, EntM.refl M H⟩
    ⟨fun M' σ' ω' δ' H' p' ow' e' x => q .non .non H' p'.wf.g e'.e.k .non x, fun v d H' g k r' x => q v d H' g k r' x, fun _ _ _ _ _ _ _ _ x => x.elim, fun _ _ _ _ _ _ _ _ x => x.elim, fun _ _ _ _ _ _ _ _ _ _ z => z.elim⟩
theorem body_ofXO {K : PySem.W.Frag} {F : FX} {vs : List V} {H : Hp} {Q : VK} {E : XK} {N : List Str} {t : TS} (h : spX K F vs H Q E)
    (hb : ∀ W ds P X, W.K = K → F ds P X → SO W (fun cls d _ H => E cls d H) t [] (startD N.length ds) (fun _ _ => P .non) P (fun _ _ => False) (fun _ _ => False) (fun x _ => X x)) : t { nx := fun _ H' => Q .non H', rt := Q } (L2.start N vs) H := by
  obtain ⟨W, M, ds, P, X, e, w, r, f, q, qx⟩ := h
  exact hb W ds P X e f M H M H M _ H _ w.dom ⟨w, start_slots N r⟩ (fun a ds m => by cases m) ⟨Ent.refl M H, EntM.refl M H⟩
    ⟨fun M' σ' ω' δ' H' p' ow' e' x => q .non .non H' p'.wf.g e'.e.k .non x, fun v d H' g k r' x => q v d H' g k r' x, fun _ _ _ _ _ _ _ _ x => x.elim, fun _ _ _ _ _ _ _ _ x => x.elim, fun M' σ' δ' H' cls d x p' e' rx hx => qx cls d x H' p'.wf.g e'.k (rx.anti e'.m) hx⟩
end PD
namespace PD
open PySem PySem.Spec PyProof.Rows L2
open PDX PDI PDT
section
variable {W : Wd} {δ : DS} {te : TE}
theorem Slots.keepM {M : Addr → Prop} {H H' : Hp} {σ : L2.St} (w : Wg W M H) (k : KeepM W M H H') (s : Slots W M H σ δ) : Slots W M H' σ δ := ⟨s.len, fun j d hd => by
  obtain ⟨v, a, r⟩ := s.get j d hd
  exact ⟨v, a, r.keepM w k⟩⟩
/-- how a comprehension's list stands: at Dl, since H1 -/
structure Acc (W : Wd) (M1 : Addr → Prop) (H1 : Hp) (Dl : Addr) (acc : List D) (H : Hp) : Prop where
  k : Keep W H1 H
  g : StOk W H
  at_ : ∃ vs, H Dl = some (.lst vs) ∧ Reps W M1 H vs acc
theorem Acc.keep {M1 : Addr → Prop} {H1 H H' : Hp} {Dl : Addr} {acc : List D} (wf : Wf W M1 H) (ns : W.s ≠ some Dl) (a : Acc W M1 H1 Dl acc H) (g : StOk W H') (k : Keep W H H') : Acc W M1 H1 Dl acc H' := by
  obtain ⟨vs, e, r⟩ := a.at_
  exact ⟨a.k.trans k, g, vs, k Dl _ ns e, r.keep wf k⟩
/-- an item more -/
theorem Acc.put {M1 : Addr → Prop} {H1 H : Hp} {Dl : Addr} {acc : List D} {y : V} {d : D} (hD : H1 Dl = none) (ns : W.s ≠ some Dl) (nb : ∀ s, W.s = some s → W.b ≠ Dl) (hM : M1 Dl) (a : Acc W M1 H1 Dl acc H) (r : Rep W M1 H y d) (hl : acc.length < 1000000) :
    ∃ vs, H Dl = some (.lst vs) ∧ vs.length < sizeLine ∧ Acc W M1 H1 Dl (acc ++ [d]) (upd H Dl (.lst (vs ++ [y]))) ∧ KeepM W M1 H (upd H Dl (.lst (vs ++ [y]))) := by
  obtain ⟨vs, e, rr⟩ := a.at_
  have g' : StOk W (upd H Dl (.lst (vs ++ [y]))) := fun s hs => by
    obtain ⟨n, i, c, m, q1, q2, q3, q4⟩ := a.g s hs
    exact ⟨n, i, c, m, by rw [upd_ne (fun z => ns (by rw [hs, z]))]; exact q1, q2, by rw [upd_ne (nb s hs)]; exact q3, q4⟩
  have k' : Keep W H1 (upd H Dl (.lst (vs ++ [y]))) := fun b o n h => by
    rw [upd_ne (ne_of_none h hD)]
    exact a.k b o n h
  refine ⟨vs, e, ?_, ⟨k', g', _, upd_same, ((rr.append (.cons r .nil)).upd (rdT_lst e) hM)⟩, fun b o n l h => ?_⟩
  · rw [rr.length]
    exact Nat.lt_of_lt_of_le hl (by decide)
  · have z : b ≠ Dl := fun z => by
      subst z
      rw [e] at h
      exact l hM _ (Option.some.inj h).symm
    rw [upd_ne z]
    exact h
theorem ev_lc2 {wi wi1 : TI} {g g1 : TG} {tt tt1 : TT} {vs vs1 : List Nat} {P : D → Prop} (h : IterD W wi δ fun ds => ∃ Inv : Nat → List D → Prop, Inv 0 [] ∧
    (∀ i d acc, ds[i]? = some d → Inv i acc → ∃ js, (∀ j ∈ js, j ∈ vs) ∧ GD W g d (wipeD δ vs) js fun δ2 => EvT W tt δ2 fun b => (b = true → IterD W wi1 δ2 fun es => ∃ Inv1 : Nat → List D → Prop, Inv1 0 acc ∧
      (∀ j e acc1, es[j]? = some e → Inv1 j acc1 → acc1.length < 1000000 ∧ ∃ js1, (∀ j ∈ js1, j ∈ vs1) ∧ GD W g1 e (wipeD δ2 vs1) js1 fun δ3 => EvT W tt1 δ3 fun b => (b = true → EvD W te δ3 fun y => Inv1 (j + 1) (acc1 ++ [y])) ∧ (b = false → Inv1 (j + 1) acc1)) ∧
      ∀ acc1, Inv1 es.length acc1 → Inv (i + 1) acc1) ∧ (b = false → Inv (i + 1) acc)) ∧ ∀ acc, Inv ds.length acc → P (.lst acc)) :
    EvD W (tLc2 wi g tt wi1 g1 tt1 te vs vs1) δ P := fun M σ H p Q q =>
  h M σ H p _ fun J H1 ds g1' k1 ⟨I, i0, it, ie⟩ src => by
    intro Dl hD
    have p1 := p.next g1' k1
    let M' : Addr → Prop := fun a => M a ∨ a = Dl
    have hm : ∀ a, M a → M' a := fun a x => .inl x
    have hn : ∀ a, M' a → ¬ M a → H1 a = none := fun a x y => by
      rcases x with x | x
      · exact absurd x y
      · rw [x]; exact hD
    have ns : W.s ≠ some Dl := fun z => by
      obtain ⟨_, _, _, _, q, _⟩ := g1' Dl z
      rw [hD] at q
      cases q
    have nb : ∀ s, W.s = some s → W.b ≠ Dl := fun s hs z => by
      obtain ⟨_, _, _, _, _, _, q, _⟩ := g1' s hs
      rw [z, hD] at q
      cases q
    have notM : ¬ M Dl := fun m => by
      obtain ⟨o, ho⟩ := p1.wf.dom Dl m
      rw [hD] at ho
      cases ho
    have wfA : ∀ {acc : List D} {H' : Hp}, Acc W M' H1 Dl acc H' → Wf W M' H' := fun {acc H'} a => ⟨a.g, fun b z => .inl (p.wf.sm b z), fun b x => by
      rcases x with x | x
      · exact (p1.wf.next a.g a.k).dom b x
      · obtain ⟨_, e, _⟩ := a.at_
        rw [x]
        exact ⟨_, e⟩⟩
    refine ⟨fun i m H' => m = ds.length - i ∧ i ≤ ds.length ∧ ∃ acc, Acc W M' H1 Dl acc H' ∧ I i acc, ⟨_, rfl, Nat.zero_le _, [], ⟨Keep.new hD, g1'.new hD, [], upd_same, .nil⟩, i0⟩, ?_⟩
    rintro i m H' ⟨rfl, hi, acc, A, hI⟩
    have wf' := wfA A
    obtain ⟨s1, s2⟩ := src M' hm hn i H' A.k.toM A.g
    by_cases hlt : i < ds.length
    · obtain ⟨hgo, hy⟩ := s2 ds[i] (List.getElem?_eq_getElem hlt)
      refine .inr ⟨hgo, fun H2 => ∃ acc, Acc W M' H1 Dl acc H2 ∧ I (i + 1) acc, ?_, fun x H3 y => ?_⟩
      · rintro H2 ⟨acc2, z⟩
        exact ⟨_, by omega, rfl, hlt, acc2, z⟩
      · obtain ⟨g3, k3, r3⟩ := hy x H3 y
        have A3 := A.keep wf' ns g3 k3
        have wf3 := wfA A3
        obtain ⟨js, hjs, hg⟩ := it i ds[i] acc (List.getElem?_eq_getElem hlt) hI
        have sl : Slots W M' H3 (wipe σ vs) (wipeD δ vs) := by
          have s0 : Slots W M H1 (wipe σ vs) (wipeD δ vs) := p1.sl.wipe vs
          have wg : Wg W M' H1 := ⟨g1', fun a z => .inl (p.wf.sm a z)⟩
          exact ⟨s0.len, fun j d hd => by
            obtain ⟨v, a1, a2⟩ := s0.get j d hd
            exact ⟨v, a1, (a2.more hn).keepG wg A3.k⟩⟩
        refine hg M' (wipe σ vs) H3 x ⟨wf3, sl⟩ r3 _ fun σ4 δ4 p4 hb hw => ?_
        refine ⟨by rw [hw vs hjs, wipe_wipe], ?_⟩
        refine hb M' σ4 H3 p4 _ fun b H5 g5 k5 h5 => ?_
        have A5 := A3.keep wf3 ns g5 k5
        have p5 := p4.next g5 k5
        cases b with
        | false =>
          rw [if_neg Bool.false_ne_true]
          exact ⟨acc, A5, h5.2 rfl⟩
        | true =>
          rw [if_pos rfl]
          refine h5.1 rfl M' σ4 H5 p5 _ fun J1 H6 es g6 k6 ⟨I1, j0, jt, je⟩ src1 => ?_
          have A6 := A5.keep (wfA A5) ns g6 k6
          have p6 := p5.next g6 k6
          refine ⟨fun j k H' => k = es.length - j ∧ j ≤ es.length ∧ ∃ acc, Acc W M' H1 Dl acc H' ∧ KeepM W M' H6 H' ∧ I1 j acc, ⟨_, rfl, Nat.zero_le _, acc, A6, fun _ _ _ _ h => h, j0⟩, ?_⟩
          rintro j k H7 ⟨rfl, hj, acc7, A7, K7, hJ⟩
          have wf7 := wfA A7
          obtain ⟨t1, t2⟩ := src1 M' (fun _ x => x) (fun _ x y => absurd x y) j H7 K7 A7.g
          by_cases hlt1 : j < es.length
          · obtain ⟨hgo1, hy1⟩ := t2 es[j] (List.getElem?_eq_getElem hlt1)
            refine .inr ⟨hgo1, fun H2 => ∃ acc, Acc W M' H1 Dl acc H2 ∧ KeepM W M' H6 H2 ∧ I1 (j + 1) acc, ?_, fun x8 H8 y8 => ?_⟩
            · rintro H2 ⟨acc2, z⟩
              exact ⟨_, by omega, rfl, hlt1, acc2, z⟩
            · obtain ⟨g8, k8, r8⟩ := hy1 x8 H8 y8
              have A8 := A7.keep wf7 ns g8 k8
              have K8 : KeepM W M' H6 H8 := fun a o n l h => k8 a o n (K7 a o n l h)
              have wf8 := wfA A8
              obtain ⟨hacc, js1, hjs1, hg1⟩ := jt j es[j] acc7 (List.getElem?_eq_getElem hlt1) hJ
              have sl1 : Slots W M' H8 (wipe σ4 vs1) (wipeD δ4 vs1) := (p6.sl.wipe vs1).keepM p6.wf.wg K8
              refine hg1 M' (wipe σ4 vs1) H8 x8 ⟨wf8, sl1⟩ r8 _ fun σ9 δ9 p9 hb9 hw9 => ?_
              refine ⟨by rw [hw9 vs1 hjs1, wipe_wipe], ?_⟩
              refine hb9 M' σ9 H8 p9 _ fun b H10 g10 k10 h10 => ?_
              have A10 := A8.keep wf8 ns g10 k10
              have K10 : KeepM W M' H6 H10 := fun a o n l h => k10 a o n (K8 a o n l h)
              cases b with
              | false =>
                rw [if_neg Bool.false_ne_true]
                exact ⟨acc7, A10, K10, h10.2 rfl⟩
              | true =>
                rw [if_pos rfl]
                refine h10.1 rfl M' σ9 H10 (p9.next g10 k10) _ fun v d H11 g11 k11 r11 h11 => ?_
                have A11 := A10.keep (wfA A10) ns g11 k11
                obtain ⟨us, e, l, A12, K12⟩ := A11.put hD ns nb (.inr rfl) r11 hacc
                refine ⟨us, e, l, acc7 ++ [d], A12, fun a o n nl h => ?_, h11⟩
                have h2 := k11 a o n (K10 a o n nl h)
                exact K12 a o n nl h2
          · have ee : j = es.length := by omega
            exact .inl ⟨t1 ee, acc7, A7, je acc7 (ee ▸ hJ)⟩
    · have ee : i = ds.length := by omega
      obtain ⟨vs', e, r⟩ := A.at_
      exact .inl ⟨s1 ee, q _ (.lst acc) H' A.g (k1.trans A.k) (.lst notM e (r.anti hm)) (ie acc (ee ▸ hI))⟩
end
end PD
namespace PD
open PySem PySem.Spec PyProof.Rows L2
open PDX PDI PDT
open AutoSeq1 (wpAny_loadPart')
/-- what the class at C asks of what it is compared with -/
structure EqT (K : PySem.W.Frag) (C f : Addr) : Prop where
  e : PySem.W.findIn K (.ref C) "__eq__" = some (some (.ref f))
  fn : PySem.W.isFn K (.ref f) = true
  yes : PySem.W.kitOne K (.ref C) (.ref C) = some true
  kT : PySem.W.kitOne K (.type "tuple") (.ref C) = some false
  kN : PySem.W.kitOne K (.type "NoneType") (.ref C) = some false
  kS : PySem.W.kitOne K (.type "str") (.ref C) = some false
  lT : PySem.W.subIn K (.type "tuple") (.ref C) = some false
  lN : PySem.W.subIn K (.type "NoneType") (.ref C) = some false
  lS : PySem.W.subIn K (.type "str") (.ref C) = some false
  rT : PySem.W.subIn K (.ref C) (.type "tuple") = some false
  rN : PySem.W.subIn K (.ref C) (.type "NoneType") = some false
  rS : PySem.W.subIn K (.ref C) (.type "str") = some false
def eqB (K : PySem.W.Frag) (C f : Addr) : Bool := decide (PySem.W.findIn K (.ref C) "__eq__" = some (some (.ref f))) && PySem.W.isFn K (.ref f) && decide (PySem.W.kitOne K (.ref C) (.ref C) = some true) &&
  decide (PySem.W.kitOne K (.type "tuple") (.ref C) = some false) && decide (PySem.W.kitOne K (.type "NoneType") (.ref C) = some false) && decide (PySem.W.kitOne K (.type "str") (.ref C) = some false) &&
  decide (PySem.W.subIn K (.type "tuple") (.ref C) = some false) && decide (PySem.W.subIn K (.type "NoneType") (.ref C) = some false) && decide (PySem.W.subIn K (.type "str") (.ref C) = some false) &&
  decide (PySem.W.subIn K (.ref C) (.type "tuple") = some false) && decide (PySem.W.subIn K (.ref C) (.type "NoneType") = some false) && decide (PySem.W.subIn K (.ref C) (.type "str") = some false)
theorem eqT_of {K : PySem.W.Frag} {C f : Addr} (q : eqB K C f = true) : EqT K C f := by
  unfold eqB at q
  simp only [Bool.and_eq_true, decide_eq_true_eq] at q
  obtain ⟨⟨⟨⟨⟨⟨⟨⟨⟨⟨⟨h1, h2⟩, h3⟩, h4⟩, h5⟩, h6⟩, h7⟩, h8⟩, h9⟩, h10⟩, h11⟩, h12⟩ := q
  exact ⟨h1, h2, h3, h4, h5, h6, h7, h8, h9, h10, h11, h12⟩
/-- None, a string, or a tuple: what else stands beside an own ==, by its type's name -/
inductive Plain3 (K : PySem.W.Frag) (H : Hp) : V → String → Prop
  | non : Plain3 K H .non "NoneType"
  | str (t : Str) : Plain3 K H (.str t) "str"
  | tup {a : Addr} {vs : List V} : SqT K H a vs → Plain3 K H (.ref a) "tuple"
def isIns (H : Hp) (C : Addr) (y : V) : Prop := ∃ a dx fs, y = .ref a ∧ H a = some (.ins C dx fs)
theorem EqT.left {K : PySem.W.Frag} {C f : Addr} {H : Hp} {y : V} {n : String} (e : EqT K C f) (h : Plain3 K H y n) : PySem.W.subIn K (.type n) (.ref C) = some false := by
  cases h <;> first | exact e.lN | exact e.lS | exact e.lT
theorem EqT.right {K : PySem.W.Frag} {C f : Addr} {H : Hp} {y : V} {n : String} (e : EqT K C f) (h : Plain3 K H y n) : PySem.W.subIn K (.ref C) (.type n) = some false := by
  cases h <;> first | exact e.rN | exact e.rS | exact e.rT
/-- a string that is asked whether it is like an object doesn't know -/
theorem strEq_obj (b : Str) (u : Tok) (l : Addr) (C dx : Addr) : PySem.Meets (Builtin.«str.__eq__» ⟨[.str b u, .ref l], []⟩) (fun _ R s => s.heap.get? l = some (PySem.W.instObj C dx) ∧ R (.ok (.ret .notImplemented)) s) :=
  .of_wp fun prog w A R s h => by
    obtain ⟨hp, g, d, tk, os⟩ := s
    obtain ⟨hl, h⟩ := h
    wp_walk using wpAny_load hl
    exact ⟨_, rfl, h⟩
/-- a tuple that is asked whether it is like what is no tuple doesn't know -/
theorem tupEq_obj {prog : Program} {w : World} (l b : Addr) (items : Array Value) (n : Nat) (dd : Option Addr) (sl : Array (Option Value)) : MeetsIn prog w (Builtin.«tuple.__eq__» ⟨[.ref l, .ref b], []⟩)
    (fun _ R s => s.heap.get? l = some { cls := .type "tuple", dict := dd, data := .seq items n, slots := sl } ∧ PySem.W.Looks (model prog w) s.heap (isInstance (.ref b) (.type "tuple")) false ∧ R (.ok (.ret .notImplemented)) s) := fun A R s h => by
  obtain ⟨hp, g, d, tk, os⟩ := s
  obtain ⟨hl, look, h⟩ := h
  have no : ∀ {A' : Around} {Q : Bool → Shared → Prop} {E : Value → Shared → Prop}, Q false ⟨hp, g, d, tk, os⟩ → wpAny (model prog w) A' (isInstance (.ref b) (.type "tuple")) Q E ⟨hp, g, d, tk, os⟩ := fun q => look.here q
  have done : wpAny (model prog w) A.in1 (Builtin.«tuple.__eq__» ⟨[.ref l, .ref b], []⟩) (fun fin s' => ∃ v, fin = .done (.ret v) ∧ R (.ok (.ret v)) s') (fun e s' => R (.error e) s') ⟨hp, g, d, tk, os⟩ := by
    wp_walk using no, wpAny_loadPart' hl
    exact ⟨_, rfl, h⟩
  refine wpAny_mono done (fun fin s' h' => ?_) fun _ _ x => x
  obtain ⟨v, rfl, hv⟩ := h'
  exact hv
section
variable {X : Cx} {pins : List (Addr × Obj)} {σ : L2.St} {H : Hp} {s : Shared}
theorem plain3_is {y : V} {u : Value} {n : String} (I : Inv X pins σ H s) (ry : RelV y u) (h : Plain3 X.K H y n) : s.TypeIs u n := by
  cases h with
  | non => cases ry; rfl
  | str t => obtain ⟨z, rfl⟩ := ry; rfl
  | tup hs =>
    cases ry
    obtain ⟨its, _, it, _⟩ := I.tuple hs
    obtain ⟨o, ho, hc, _⟩ := it
    exact ⟨o, ho, hc⟩
variable {CX : CXT} {n k : Nat} {C f : Addr} {fd : FuncData} {ps : List Str} {sp : Sp} {E : XK}
def boolQ (Q : VK) : VK := fun v H' => (∃ b, v = .bl b) ∧ Q v H'
/-- the class's own word is asked: a flag comes back -/
theorem own_asked {x y : V} {u w : Value} {Q : VK} (F : FnOk X.prog X.w X.K X.mg X.base CX k f fd ps sp) (hr : Room k X.A) (hb : Binds X.K fd ps []) (hx : Passes CX X E) (I : Inv X pins σ H s) (rx : RelV x u) (ry : RelV y w) (h : sp [x, y] H (boolQ Q) E) :
    wpAny (model X.prog X.w) X.A (call (.ref f) [u, w]) (PySem.W.CmpBack (EP X pins σ Q)) X.xe s := by
  have ran := run_fn (dvs := []) (us := [u, w]) (vs := [x, y]) F hr hb .nil hx I (.cons rx (.cons ry .nil)) (by simpa using h)
  refine wpAny_mono ran (fun z t q => ?_) fun _ _ e => e
  obtain ⟨v, G, J, r, ⟨b, rfl⟩, hq⟩ := q
  cases r
  exact ⟨.bl b, G, J, rfl, hq⟩
theorem ins_at {a dx : Addr} {fs : List (Str × V)} (I : Inv X pins σ H s) (h : H a = some (.ins C dx fs)) : ∃ od, PySem.W.InstAt s.heap a (PySem.W.instObj C dx) C od := by
  obtain ⟨_, m, _⟩ := ins_get I.hok h
  obtain ⟨od, i, _⟩ := m.look
  exact ⟨_, i⟩
def rOwn (K : PySem.W.Frag) (C : Addr) (sp : Sp) (E : XK) : R2 := fun x y H Q => (isIns H C x ∧ (isIns H C y ∨ ∃ n, Plain3 K H y n) ∧ sp [x, y] H (boolQ Q) E) ∨ (isIns H C y ∧ (∃ n, Plain3 K H x n) ∧ sp [y, x] H (boolQ Q) E)
theorem looks_is {u : Value} {n : String} (h : s.TypeIs u n) : PySem.W.Looks (model X.prog X.w) s.heap (typeOf u) (.type n) := fun A Q E t k q => by
  refine wpAny_typeOf (T := n) ?_ q
  cases u <;> first | exact h | (obtain ⟨o, h1, h2⟩ := h; exact ⟨o, k _ _ h1, h2⟩)
theorem own_left {a : Addr} {y : V} {w : Value} {Q : VK} (T : EqT X.K C f) (F : FnOk X.prog X.w X.K X.mg X.base CX k f fd ps sp) (hr : Room k X.A) (hb : Binds X.K fd ps []) (hx : Passes CX X E) (I : Inv X pins σ H s) (ry : RelV y w)
    (hA : isIns H C (.ref a)) (hY : isIns H C y ∨ ∃ n, Plain3 X.K H y n) (h : sp [.ref a, y] H (boolQ Q) E) : wpAny (model X.prog X.w) X.A (richCompare .Eq (.ref a) w) (EP X pins σ Q) X.xe s := by
  obtain ⟨_, dx, fs, e, ha⟩ := hA
  cases e
  obtain ⟨od, i⟩ := ins_at I ha
  obtain ⟨m, fr⟩ := I.fr
  have asked := own_asked (x := .ref a) (u := .ref a) F hr hb hx I rfl ry h
  rcases hY with ⟨b, dy, gs, rfl, hb'⟩ | ⟨n, hn⟩
  · cases ry
    obtain ⟨od2, j⟩ := ins_at I hb'
    exact PySem.W.cmp_K (op := .Eq) (tb := .ref C) hr.units0 fr I.ok.mod.kin i j.type (by simp [PySem.W.notFirst]) T.e T.fn asked
  · exact PySem.W.cmp_K (op := .Eq) (tb := .type n) hr.units0 fr I.ok.mod.kin i (looks_is (plain3_is I ry hn)) (by simp [PySem.W.notFirst, T.left hn]) T.e T.fn asked
/-- what is no object doesn't know whether it is like one -/
theorem plain_asked {x : V} {u : Value} {n : String} {b dx : Addr} {od : Option Obj} {R : Option Value → Shared → Prop} (T : EqT X.K C f) (I : Inv X pins σ H s) (rx : RelV x u) (hn : Plain3 X.K H x n) (i : PySem.W.InstAt s.heap b (PySem.W.instObj C dx) C od) (q : R none s) :
    wpAny (model X.prog X.w) X.A (tryCompare u "__eq__" (.ref b)) R X.xe s := by
  cases hn with
  | non =>
    cases rx
    exact wpAny_tryCompare_declines (T := "NoneType") rfl F.slot_NoneType_eq (call_meets F.slot_NoneType_eq rfl F.entry_NoneType_eq (F.args_NoneType_eq_2 _ _) (SeqAt.NoneType___eq___none_ref_0 b).meets ⟨rfl, q⟩)
  | str t =>
    obtain ⟨z, rfl⟩ := rx
    exact wpAny_tryCompare_declines (T := "str") rfl F.slot_str_eq (call_meets F.slot_str_eq rfl F.entry_str_eq (F.args_str_eq_2 _ _) (strEq_obj t z b C dx) ⟨i.at_, rfl, q⟩)
  | @tup a vs hs =>
    cases rx
    obtain ⟨its, _, it, _⟩ := I.tuple hs
    obtain ⟨o, ho, hc, nn, hd⟩ := it
    have look : PySem.W.Looks (model X.prog X.w) s.heap (isInstance (.ref b) (.type "tuple")) false := i.type.andThen (PySem.W.looks_subIn I.kIn T.rT)
    obtain ⟨cls, dd, data, sl⟩ := o
    simp only at hc hd
    subst hc hd
    exact wpAny_tryCompare_declines (T := "tuple") ⟨_, ho, rfl⟩ F.slot_tuple_eq (call_meetsIn F.slot_tuple_eq ⟨_, ho, rfl⟩ F.entry_tuple_eq (F.args_tuple_eq_2 _ _) (tupEq_obj a b its.toArray nn dd sl) ⟨ho, look, rfl, q⟩)
theorem own_right {b : Addr} {x : V} {u : Value} {Q : VK} {n : String} (T : EqT X.K C f) (F : FnOk X.prog X.w X.K X.mg X.base CX k f fd ps sp) (hr : Room k X.A) (hb : Binds X.K fd ps []) (hx : Passes CX X E) (I : Inv X pins σ H s) (rx : RelV x u)
    (hB : isIns H C (.ref b)) (hn : Plain3 X.K H x n) (h : sp [.ref b, x] H (boolQ Q) E) : wpAny (model X.prog X.w) X.A (richCompare .Eq u (.ref b)) (EP X pins σ Q) X.xe s := by
  obtain ⟨_, dx, fs, e, hb'⟩ := hB
  cases e
  obtain ⟨od, i⟩ := ins_at I hb'
  have asked := own_asked (x := .ref b) (u := .ref b) F hr hb hx I rfl rx h
  have is := plain3_is I rx hn
  have own : wpAny (model X.prog X.w) X.A (tryCompare (.ref b) "__eq__" u) (fun r t => ∃ v, r = some v ∧ EP X pins σ Q v t) X.xe s := by
    unfold tryCompare
    refine wpAny_bind (PySem.W.ifBound_K I.kIn i T.e T.fn (wpAny_mono asked (fun v t q => ?_) fun _ _ e => e))
    cases v <;> first | exact q.elim | exact wpAny_pure ⟨_, rfl, q⟩
  unfold richCompare
  rw [is.oneThing_none]
  refine wpAny_holding (wpAny_bind (wpAny_cRoomFor hr.units0 ?_))
  refine wpAny_bind ((looks_is is).here (wpAny_bind (i.type.here ?_)))
  have ne : (Value.type n != Value.ref C) = true := rfl
  rw [if_pos ne]
  refine wpAny_bind ((PySem.W.looks_subIn I.kIn (T.right hn)).here ?_)
  simp only [Bool.false_eq_true, ↓reduceIte, Bool.not_false]
  refine wpAny_bind (m := tryCompare u _ (.ref b)) (plain_asked T I rx hn i ?_)
  refine wpAny_bind (wpAny_mono own (fun r t q => ?_) fun _ _ e => e)
  obtain ⟨v, rfl, hv⟩ := q
  exact wpAny_pure hv
/-- x == y, one of both an object with its own word for it -/
theorem op_own (T : EqT X.K C f) (F : FnOk X.prog X.w X.K X.mg X.base CX k f fd ps sp) (hr : Room k X.A) (hb : Binds X.K fd ps []) (hx : Passes CX X E) : OpR X (compareOp .Eq) (rOwn X.K C sp E) := by
  intro pins s σ H x y v u Q I rx ry h
  rcases h with ⟨hA, hY, h⟩ | ⟨hB, ⟨n, hn⟩, h⟩
  · obtain ⟨a, dx, fs, rfl, ha⟩ := id hA
    cases rx
    exact own_left T F hr hb hx I ry hA hY h
  · obtain ⟨b, dx, fs, rfl, hb'⟩ := id hB
    cases ry
    exact own_right T F hr hb hx I rx hB hn h
end
end PD
namespace PD
open PySem PySem.Spec PyProof.Rows L2
open PDX PDI PDT
section
variable {W : Wd} {δ : DS} {P : D → Prop}
def isPl3 : D → Bool
  | .non | .str _ | .tup _ => true
  | _ => false
theorem pl3_of {M : Addr → Prop} {H : Hp} {v : V} {d : D} (r : Rep W M H v d) (h : isPl3 d = true) : ∃ n, Plain3 W.K H v n := by
  cases r <;> first | exact ⟨_, .non⟩ | exact ⟨_, .str _⟩ | (rename_i hs _; exact ⟨_, .tup hs⟩) | cases h
theorem ins_of {M : Addr → Prop} {H : Hp} {v : V} {C : Addr} {ns : List Str} {ds : List D} (r : Rep W M H v (.ins C ns ds)) : isIns H C v := by
  cases r with
  | ins n e _ _ => exact ⟨_, _, _, rfl, e⟩
theorem own_spec {F : FD} {M : Addr → Prop} {H : Hp} {v u : V} {x y : D} {Q : VK} {E : XK} (w : Wf W M H) (r1 : Rep W M H v x) (r2 : Rep W M H u y) (h : F [x, y] fun d => ∃ b, d = .bl b ∧ P d)
    (q : ∀ v d H', StOk W H' → Keep W H H' → Rep W M H' v d → P d → Q v H') : spD W.K F [v, u] H (boolQ Q) E := ⟨W, M, [x, y], _, rfl, w, .cons r1 (.cons r2 .nil), h, fun v d H' g k r ⟨b, e, hP⟩ => by
  subst e
  cases r
  exact ⟨⟨b, rfl⟩, q _ _ H' g k (.bl b) hP⟩⟩
theorem rd_own {F : FD} {C : Addr} {ns : List Str} {ds : List D} {y : D} {E : XK} (hy : (∃ ms es, y = .ins C ms es) ∨ isPl3 y = true) (h : F [.ins C ns ds, y] fun d => ∃ b, d = .bl b ∧ P d) : RD W (rOwn W.K C (spD W.K F) E) (.ins C ns ds) y P := fun M H v u w r1 r2 Q q => by
  refine .inl ⟨ins_of r1, ?_, own_spec w r1 r2 h q⟩
  rcases hy with ⟨ms, es, rfl⟩ | hy
  · exact .inl (ins_of r2)
  · exact .inr (pl3_of r2 hy)
theorem rd_ownR {F : FD} {C : Addr} {ns : List Str} {ds : List D} {x : D} {E : XK} (hx : isPl3 x = true) (h : F [.ins C ns ds, x] fun d => ∃ b, d = .bl b ∧ P d) : RD W (rOwn W.K C (spD W.K F) E) x (.ins C ns ds) P := fun M H v u w r1 r2 Q q =>
  .inr ⟨ins_of r2, pl3_of r1 hx, own_spec w r2 r1 h q⟩
theorem ev_obj {a : Addr} (h : P (.obj a)) : EvD W (tC (.ref a)) δ P := fun M σ H p Q q => q _ _ H p.wf.g (Keep.refl H) (.obj a) h
/-- isinstance(x, C), C an own class -/
theorem rc_isiE {C f : Addr} {ns : List Str} {ds : List D} (T : EqT W.K C f) (o : OCls W.K C) (h : P (.bl true)) : RCD W (rIsi W.K) [.ins C ns ds, .obj C] P := fun M H vs w r Q q => by
  cases r with
  | cons r1 r2 =>
    cases r2 with
    | cons r2 r3 =>
      cases r3
      cases r2
      exact ⟨_, _, _, _, true, rfl, .own C, tyxO o r1, T.yes, q _ _ H w.g (Keep.refl H) (.bl true) h⟩
theorem rc_isiP {C f : Addr} {x : D} (T : EqT W.K C f) (hx : isPl3 x = true) (h : P (.bl false)) : RCD W (rIsi W.K) [x, .obj C] P := fun M H vs w r Q q => by
  cases r with
  | cons r1 r2 =>
    cases r2 with
    | cons r2 r3 =>
      cases r3
      cases r2
      have no : ∃ n, x.tyName = some n ∧ PySem.W.kitOne W.K (.type n) (.ref C) = some false := by
        cases x <;> first | exact ⟨_, rfl, T.kN⟩ | exact ⟨_, rfl, T.kS⟩ | exact ⟨_, rfl, T.kT⟩ | cases hx
      obtain ⟨n, hn, hk⟩ := no
      exact ⟨_, _, _, _, false, rfl, .own C, tyx r1 hn, hk, q _ _ H w.g (Keep.refl H) (.bl false) h⟩
end
theorem op_ownK {X : Cx} {K : PySem.W.Frag} {CX : CXT} {k : Nat} {C f : Addr} {fd : FuncData} {ps : List Str} {sp : Sp} {E : XK} (h : X.K = K) (T : EqT K C f) (F : FnOk X.prog X.w K X.mg X.base CX k f fd ps sp) (hr : Room k X.A) (hb : Binds K fd ps []) (hx : Passes CX X E) : OpR X (compareOp .Eq) (rOwn K C sp E) := by
  subst h
  exact op_own T F hr hb hx
/-! ### lcm -/
section
variable {X : Cx}
def rLcm : List V → Hp → VK → Prop := fun vs H Q => ∃ a b : Int, vs = [.int a, .int b] ∧ a.natAbs ≤ 1000 ∧ b.natAbs ≤ 1000 ∧ Q (.int ((Nat.lcm a.natAbs b.natAbs : Nat) : Int)) H
theorem lcm_le (a b : Nat) (ha : a ≤ 1000) (hb : b ≤ 1000) : Nat.lcm a b ≤ 1000000 := by
  have h : Nat.lcm a b ≤ a * b := Nat.div_le_self _ _
  have : a * b ≤ 1000 * 1000 := Nat.mul_le_mul ha hb
  omega
theorem cr_lcm : CallR X (.builtin "math.lcm") rLcm := fun pins s σ H vs us Q I r h => by
  obtain ⟨a, b, rfl, ha, hb, q⟩ := h
  obtain ⟨t, u, rfl⟩ := Vals.int2 r
  have low : ((Nat.lcm a.natAbs b.natAbs : Nat) : Int).natAbs.log2 < bitsLine := by
    have := lcm_le _ _ ha hb
    have e : ((Nat.lcm a.natAbs b.natAbs : Nat) : Int).natAbs = Nat.lcm a.natAbs b.natAbs := rfl
    rw [e]
    have l : (Nat.lcm a.natAbs b.natAbs).log2 ≤ 1000000 := Nat.le_trans (Nat.log2_le_self _) this
    by_cases z : Nat.lcm a.natAbs b.natAbs = 0
    · rw [z]; decide
    · exact Nat.lt_of_lt_of_le ((Nat.log2_lt z).mpr (Nat.lt_of_le_of_lt this (by decide : 1000000 < 2 ^ 20))) (by decide)
  refine PySem.W.mg_lcm_v (by omega) (by omega) ?_ low ⟨.int _, H, I.tok _, ⟨_, rfl⟩, q⟩
  rw [Nat.lcm_one_left]
end
section
variable {W : Wd} {P : D → Prop}
theorem rc_lcm {i j : Int} (hi : i.natAbs ≤ 1000) (hj : j.natAbs ≤ 1000) (h : P (.int ((Nat.lcm i.natAbs j.natAbs : Nat) : Int))) : RCD W rLcm [.int i, .int j] P := fun M H vs w r Q q => by
  cases r with
  | cons r1 r2 =>
    cases r2 with
    | cons r2 r3 =>
      cases r3
      cases r1
      cases r2
      exact ⟨i, j, rfl, hi, hj, q _ _ H w.g (Keep.refl H) (.int _) h⟩
end
/-! ### lists of lists -/
abbrev rListOf (K : PySem.W.Frag) : List V → Hp → VK → Prop := fun xs H Q => ∃ p ys, xs = [.ref p] ∧ (SqL K H p ys ∨ SqT K H p ys) ∧ ∀ l, H l = none → Q (.ref l) (upd H l (.lst ys))
section
variable {W : Wd} {Wx : WX} {X : XV → DS → Prop} {δ : DS} {N : DS → Prop} {R : D → Prop} {B C : DS → Prop} {ts : TS}
theorem stok_put {H1 H : Hp} {a : Addr} {o : HO} (hD : H1 a = none) (g1 : StOk W H1) (g : StOk W H) : StOk W (upd H a o) := fun s hs => by
  obtain ⟨n, i, c, m, q1, q2, q3, q4⟩ := g s hs
  obtain ⟨_, _, _, _, z1, _, z3, _⟩ := g1 s hs
  exact ⟨n, i, c, m, by rw [upd_ne (ne_of_none z1 hD)]; exact q1, q2, by rw [upd_ne (ne_of_none z3 hD)]; exact q3, q4⟩
/-- a list at L, of new lists, as many as there are rows so far -/
structure Nest (W : Wd) (M : Addr → Prop) (H1 : Hp) (L : Addr) (as : List Addr) (rows : List (List D)) (n : Nat) (H : Hp) : Prop where
  k : Keep W H1 H
  g : StOk W H
  at_ : H L = some (.lst (as.map V.ref))
  len : as.length = n
  each : ∀ (j : Nat) (a : Addr), as[j]? = some a → ∃ cs vs, rows[j]? = some cs ∧ H a = some (.lst vs) ∧ Reps W (fun b => M b ∨ b = L) H vs cs
  off : ∀ a ∈ as, H1 a = none ∧ a ≠ L
  nod : as.Nodup
theorem nest_lists {M : Addr → Prop} {H1 H : Hp} {L : Addr} {as : List Addr} {rows : List (List D)} {n : Nat} (w : Wf W M H1) (hL : H1 L = none) (h : Nest W M H1 L as rows n H) (hn : n = rows.length) : Rep W M H (.ref L) (.lst (rows.map .lst)) := by
  have out : ∀ a, H1 a = none → ¬ M a := fun a z m => by
    obtain ⟨o, ho⟩ := w.dom a m
    rw [z] at ho
    cases ho
  refine .lst (out L hL) h.at_ ?_
  have all : ∀ (as : List Addr) (rows : List (List D)), as.length = rows.length → (∀ (j : Nat) (a : Addr), as[j]? = some a → ∃ cs vs, rows[j]? = some cs ∧ H a = some (.lst vs) ∧ Reps W (fun b => M b ∨ b = L) H vs cs) → (∀ a ∈ as, H1 a = none) → Reps W M H (as.map V.ref) (rows.map .lst) := by
    intro as
    induction as with
    | nil => intro rows hl _ _; cases rows with
      | nil => exact .nil
      | cons _ _ => cases hl
    | cons a as ih => intro rows hl he ho; cases rows with
      | nil => cases hl
      | cons cs rows =>
        obtain ⟨cs', vs, e1, e2, e3⟩ := he 0 a rfl
        cases e1
        exact .cons (.lst (out a (ho a List.mem_cons_self)) e2 (e3.anti fun _ z => .inl z)) (ih rows (Nat.succ.inj hl) (fun j b hb => he (j + 1) b hb) fun b hb => ho b (List.mem_cons_of_mem _ hb))
  exact all as rows (h.len.trans hn) h.each fun a ha => (h.off a ha).1
/-- [list(x) for x in ..] -/
theorem lc_lists {wi : TI} {v : Nat} {M : Addr → Prop} {σ : L2.St} {H : Hp} {Q : VK} (hv : v < σ.length) (p : Pre W M δ σ H) {Pr : List (List D) → Prop} (h : IterD W wi δ fun ds => ∃ rows : List (List D), ds = rows.map .tup ∧ rows.length ≤ 100000 ∧ Pr rows)
    (q : ∀ (H1 H' : Hp) (L : Addr) (as : List Addr) (rows : List (List D)), StOk W H1 → Keep W H H1 → H1 L = none → Nest W M H1 L as rows rows.length H' → Pr rows → Q (.ref L) H') : tLc wi (gName v) tYes (tCB (rListOf W.K) (tCons (tVar v) tNil)) [v] σ H Q :=
  h M σ H p _ fun J H1 ds g1 k1 ⟨rows, hds, hl, hP⟩ src => by
    subst hds
    intro L hL
    have p1 := p.next g1 k1
    let M' : Addr → Prop := fun b => M b ∨ b = L
    have hm : ∀ b, M b → M' b := fun _ z => .inl z
    have hn : ∀ b, M' b → ¬ M b → H1 b = none := fun b x y => by
      rcases x with x | x
      · exact absurd x y
      · rw [x]; exact hL
    refine ⟨fun i m H' => m = rows.length - i ∧ i ≤ rows.length ∧ ∃ as, Nest W M H1 L as rows i H', ⟨_, rfl, Nat.zero_le _, [], ⟨Keep.new hL, g1.new hL, upd_same, rfl, fun j a z => by simp at z, fun a z => (by cases z), List.nodup_nil⟩⟩, ?_⟩
    rintro i m H' ⟨rfl, hi, as, A⟩
    obtain ⟨s1, s2⟩ := src M' hm hn i H' A.k.toM A.g
    by_cases hlt : i < rows.length
    · have hd : (rows.map D.tup)[i]? = some (.tup rows[i]) := by rw [List.getElem?_map, List.getElem?_eq_getElem hlt]; rfl
      obtain ⟨hgo, hy⟩ := s2 _ hd
      refine .inr ⟨hgo, fun H2 => ∃ as, Nest W M H1 L as rows (i + 1) H2, ?_, fun x H3 y => ?_⟩
      · rintro H2 ⟨as2, z⟩
        exact ⟨_, by omega, rfl, hlt, as2, z⟩
      · obtain ⟨g3, k3, r3⟩ := hy x H3 y
        have wA : Wf W M' H' := ⟨A.g, fun b z => .inl (p1.wf.sm b z), fun b x => by
          rcases x with x | x
          · exact (p1.wf.next A.g A.k).dom b x
          · rw [x]; exact ⟨_, A.at_⟩⟩
        have w3 : Wf W M' H3 := wA.next g3 k3
        have nsN : ∀ b, H1 b = none → W.s ≠ some b := fun b hb z => by
          obtain ⟨_, _, _, _, q1, _⟩ := g1 b z
          rw [hb] at q1
          cases q1
        cases r3 with
        | @tup a vs cs hs hr =>
          have atL : H3 L = some (.lst (as.map V.ref)) := k3 L _ (nsN L hL) A.at_
          refine ⟨by rw [wipe_set (by simp), wipe_wipe], ?_⟩
          simp only [tYes, if_true]
          refine ⟨.ref a, by rw [List.getElem?_set_self (by rw [wipe_length]; exact hv)], a, vs, rfl, .inr hs, fun l hlf => ?_⟩
          have nl : L ≠ l := ne_of_none atL hlf
          refine ⟨as.map V.ref, by rw [upd_ne nl]; exact atL, ?_, as ++ [l], ?_⟩
          · rw [List.length_map, A.len]
            exact Nat.lt_of_lt_of_le hlt (Nat.le_trans hl (by decide))
          · have off : H1 l = none := by
              cases z : H1 l with
              | none => rfl
              | some o =>
                have ns : W.s ≠ some l := fun e => by
                  obtain ⟨_, _, _, _, q1, _⟩ := g3 l e
                  rw [hlf] at q1
                  cases q1
                rw [k3 l o ns (A.k l o ns z)] at hlf
                cases hlf
            have kk : ∀ {b : Addr} {o : HO}, H3 b = some o → b ≠ L → upd (upd H3 l (.lst vs)) L (.lst (as.map V.ref ++ [.ref l])) b = some o := fun {b o} e z => by
              rw [upd_ne z, upd_ne (ne_of_none e hlf)]
              exact e
            have kS : Keep W H3 (upd H3 l (.lst vs)) := Keep.new hlf
            have up : ∀ {us : List V} {es : List D}, Reps W M' H3 us es → Reps W M' (upd (upd H3 l (.lst vs)) L (.lst (as.map V.ref ++ [.ref l]))) us es := fun {us es} r =>
              (r.keep w3 kS).upd (p := L) (rdT_lst (by rw [upd_ne nl]; exact atL)) (.inr rfl)
            refine ⟨fun b o ns e => kk (k3 b o ns (A.k b o ns e)) (ne_of_none e hL), stok_put hL g1 (g3.new hlf), by rw [upd_same, List.map_append]; rfl, by rw [List.length_append, A.len]; rfl, fun j b hb => ?_, fun b hb => ?_, ?_⟩
            · by_cases hj : j < as.length
              · rw [List.getElem?_append_left hj] at hb
                obtain ⟨ds, us, e1, e2, e3⟩ := A.each j b hb
                have mem := A.off b (List.mem_of_getElem? hb)
                exact ⟨ds, us, e1, kk (k3 b _ (nsN b mem.1) e2) mem.2, up (e3.keep wA k3)⟩
              · have ej : j = as.length := by
                  have := (List.getElem?_eq_some_iff.mp hb).1
                  rw [List.length_append] at this
                  have one : [l].length = 1 := rfl
                  omega
                subst ej
                rw [List.getElem?_append_right (Nat.le_refl _), Nat.sub_self] at hb
                cases hb
                exact ⟨rows[i], vs, by rw [A.len]; exact List.getElem?_eq_getElem hlt, by rw [upd_ne nl.symm, upd_same], up hr⟩
            · rcases List.mem_append.mp hb with hb | hb
              · exact A.off b hb
              · rw [List.mem_singleton.mp hb]
                exact ⟨off, nl.symm⟩
            · rw [List.nodup_append]
              refine ⟨A.nod, by simp, fun b hb c hc e => ?_⟩
              rw [List.mem_singleton.mp hc] at e
              obtain ⟨j, hj⟩ := List.mem_iff_getElem?.mp hb
              obtain ⟨ds, us, e1, e2, e3⟩ := A.each j b hj
              rw [e] at e2 hb
              rw [k3 l _ (nsN l (A.off l hb).1) e2] at hlf
              cases hlf
    · have ee : i = rows.length := by omega
      subst ee
      exact .inl ⟨s1 (by rw [List.length_map]), q H1 H' L as rows g1 k1 hL A hP⟩
/-- .. an item of one of them told anew -/
theorem nest_set {M : Addr → Prop} {H1 H : Hp} {L : Addr} {as : List Addr} {rows : List (List D)} {n i j : Nat} {a : Addr} {cs : List D} {vs : List V} {v : V} {d : D} (g1 : StOk W H1) (w : Wf W M H) (hL : H1 L = none) (A : Nest W M H1 L as rows n H) (ha : as[i]? = some a) (hc : rows[i]? = some cs)
    (hv : H a = some (.lst vs)) (rv : Rep W M H v d) (nd : d.nref = true) (nr : ∀ e ∈ rows, D.nrefs e = true) : Nest W M H1 L as (rows.set i (cs.set j d)) n (upd H a (.lst (vs.set j v))) := by
  have off := A.off a (List.mem_of_getElem? ha)
  have up : ∀ {us : List V} {es : List D}, Reps W (fun b => M b ∨ b = L) H us es → D.nrefs es = true → Reps W (fun b => M b ∨ b = L) (upd H a (.lst (vs.set j v))) us es := fun {us es} r z =>
    (((r.nref (M2 := fun _ => True) z).upd (p := a) (rdT_lst hv) trivial).nref z)
  have rv2 : Rep W (fun b => M b ∨ b = L) (upd H a (.lst (vs.set j v))) v d := (((rv.nref (M2 := fun _ => True) nd).upd (p := a) (rdT_lst hv) trivial).nref nd)
  refine ⟨fun b o ns e => ?_, stok_put off.1 g1 A.g, by rw [upd_ne off.2.symm]; exact A.at_, A.len, fun k b hb => ?_, A.off, A.nod⟩
  · rw [upd_ne (ne_of_none e off.1)]
    exact A.k b o ns e
  · obtain ⟨ds, us, e1, e2, e3⟩ := A.each k b hb
    by_cases z : k = i
    · subst z
      rw [ha] at hb
      cases hb
      rw [hv] at e2
      cases e2
      rw [hc] at e1
      cases e1
      have hl := (List.getElem?_eq_some_iff.mp hc).1
      exact ⟨cs.set j d, vs.set j v, List.getElem?_set_self hl, upd_same, (up e3 (nr cs (List.mem_of_getElem? hc))).setR j rv2⟩
    · have ne : b ≠ a := fun e => by
        rw [e] at hb
        exact z (nd_ix A.nod hb ha)
      exact ⟨ds, us, by rw [List.getElem?_set_ne (fun q => z q.symm)]; exact e1, by rw [upd_ne ne]; exact e2, up e3 (nr ds (List.mem_of_getElem? e1))⟩
theorem sx_nestSet {r v t ri rj : Nat} {wi : TI} (hv : v < δ.length) (hr : r < δ.length) (n1 : r ≠ t) (n2 : r ≠ ri) (n3 : r ≠ rj) (h : IterD W wi δ fun ds => ∃ rows : List (List D), ds = rows.map .tup ∧ rows.length ≤ 100000 ∧ ∃ (i j : Nat) (cs : List D) (d : D), rows[i]? = some cs ∧ j < cs.length ∧
      δ[ri]? = some (some (.int (i : Int))) ∧ δ[rj]? = some (some (.int (j : Int))) ∧ δ[t]? = some (some d) ∧ d.nref = true ∧ (∀ e ∈ rows, D.nrefs e = true) ∧ SX W Wx ts (δ.set r (some (.lst ((rows.set i (cs.set j d)).map .lst)))) N R B C X) :
    SX W Wx (tSeq (tAsg (tLc wi (gName v) tYes (tCB (rListOf W.K) (tCons (tVar v) tNil)) [v]) (gName r)) (tSeq (tAsg (tVar t) (gSub (tOp (rIx W.K) (tVar r) (tVar ri)) (tVar rj) rSetL)) ts)) δ N R B C X := fun M0 H0 M σ H E p e o => by
  refine lc_lists (Q := fun x H1 => gName r x σ H1 _) (by rw [p.sl.len]; exact hv) p h fun H1 H' L as rows g1 k1 hL A hP => ?_
  obtain ⟨i, j, cs, d, hi, hj, e1, e2, e3, nd, nr, hts⟩ := hP
  have p1 := p.next g1 k1
  have p2 := p1.next A.g A.k
  obtain ⟨vt, st, rt⟩ := p2.sl.get t _ e3
  obtain ⟨vi, si, ri'⟩ := p2.sl.get ri _ e1
  obtain ⟨vj, sj, rj'⟩ := p2.sl.get rj _ e2
  cases ri'
  cases rj'
  have hl : i < as.length := by rw [A.len]; exact (List.getElem?_eq_some_iff.mp hi).1
  have ha : as[i]? = some as[i] := List.getElem?_eq_getElem hl
  obtain ⟨cs', vs, q1, q2, q3⟩ := A.each i _ ha
  rw [hi] at q1
  cases q1
  have hs : r < σ.length := by rw [p.sl.len]; exact hr
  refine ⟨vt, by rw [List.getElem?_set_ne n1]; exact st, .ref L, List.getElem?_set_self hs, .int i, by rw [List.getElem?_set_ne n2]; exact si, .inl ⟨L, as.map V.ref, i, .ref as[i], rfl, rfl, SqL.of A.at_, atI_nat (by rw [List.getElem?_map, ha]; rfl), ?_⟩⟩
  refine ⟨.int j, by rw [List.getElem?_set_ne n3]; exact sj, as[i], vs, j, j, rfl, rfl, q2, ?_, ?_⟩
  · unfold ixN
    have := q3.length
    simp
    omega
  · have G := nest_set (j := j) g1 p2.wf hL A ha hi q2 rt nd nr
    have kk : Keep W H (upd H' as[i] (.lst (vs.set j vt))) := k1.trans G.k
    have len : rows.length = (rows.set i (cs.set j d)).length := by rw [List.length_set]
    have p3 := p.next G.g kk
    exact hts M0 H0 M _ _ E ⟨p3.wf, p3.sl.set r (nest_lists p1.wf hL G len)⟩ (e.next kk) o
end
end PD
namespace PD
open PySem PySem.Spec PyProof.Rows L2
open PDX PDI PDT
abbrev gd (C : Addr) (n : Int) (xs : List D) : D := .ins C ["bases", "rows"] [.int n, .tup xs]
/-- so many columns, each cell a right one -/
structure Grd (n : Int) (m : Nat) (xs : List D) : Prop where
  n1 : 1 ≤ n
  n3 : n ≤ 3
  l1 : 1 ≤ xs.length
  l10 : xs.length ≤ 10
  m1 : 1 ≤ m
  m10 : m ≤ 10
  row : ∀ e ∈ xs, ∃ cs, e = .tup cs ∧ cs.length = m ∧ ∀ c ∈ cs, isCl n c = true
theorem Grd.ok {n : Int} {m : Nat} {xs : List D} (g : Grd n m xs) : GridOk n xs := ⟨g.n1, g.n3, g.l1, g.l10, m, g.m1, g.m10, g.row⟩
theorem Grd.at {n : Int} {m : Nat} {xs : List D} (g : Grd n m xs) {i : Nat} {e : D} (h : xs[i]? = some e) : ∃ cs, e = .tup cs ∧ cs.length = m ∧ ∀ c ∈ cs, isCl n c = true := g.row e (List.mem_of_getElem? h)
theorem Grd.at' {n : Int} {m : Nat} {xs : List D} (g : Grd n m xs) {i : Nat} (h : i < xs.length) : ∃ cs, xs[i]? = some (.tup cs) ∧ cs.length = m ∧ ∀ c ∈ cs, isCl n c = true := by
  obtain ⟨cs, e, h2⟩ := g.row xs[i] (List.getElem_mem h)
  exact ⟨cs, by rw [List.getElem?_eq_getElem h, e], h2⟩
theorem Grd.head {n : Int} {m : Nat} {xs : List D} (g : Grd n m xs) : ∃ cs, xs[0]? = some (.tup cs) ∧ cs.length = m ∧ D.len (xs.headD .non) = m := by
  have l1 := g.l1
  obtain ⟨cs, e, h, _⟩ := g.at' (i := 0) (by omega)
  refine ⟨cs, e, h, ?_⟩
  cases xs with
  | nil => cases e
  | cons y ys =>
    cases e
    show (cs.length : Int) = m
    omega
theorem Grd.wrong {n : Int} {m : Nat} {xs : List D} (g : Grd n m xs) : wrongD (.int n) (.tup xs) = .non := by
  have len : hasLen (.tup xs) = true := by
    show (decide (1 ≤ xs.length) && decide (xs.length ≤ 10)) = true
    rw [decide_eq_true g.l1, decide_eq_true g.l10]
    rfl
  rw [wrongD_in g.n1 g.n3, if_pos len]
  obtain ⟨_, _, _, hd⟩ := g.head
  have rows : xs.findIdx? (badRow xs) = none := by
    rw [List.findIdx?_eq_none_iff]
    intro e he
    obtain ⟨cs, rfl, hm, _⟩ := g.row e he
    have m1 := g.m1
    have m10 := g.m10
    unfold badRow
    rw [hd]
    show (!(decide (1 ≤ cs.length) && decide (cs.length ≤ 10)) || decide (¬ (cs.length : Int) = m)) = false
    rw [decide_eq_true (show 1 ≤ cs.length by omega), decide_eq_true (show cs.length ≤ 10 by omega), decide_eq_false (show ¬ ¬ (cs.length : Int) = m by omega)]
    rfl
  have cells : xs.findIdx? (badIn n) = none := by
    rw [List.findIdx?_eq_none_iff]
    intro e he
    obtain ⟨cs, rfl, _, hc⟩ := g.row e he
    unfold badIn
    rw [List.any_eq_false]
    intro c hc'
    rw [hc c hc']
    simp
  show wrongR n xs = .non
  unfold wrongR wrongC
  rw [rows, cells]
theorem Grd.set {n : Int} {m : Nat} {xs cs : List D} (g : Grd n m xs) {i j : Nat} {t : D} (hi : xs[i]? = some (.tup cs)) (ht : isCl n t = true) : Grd n m (xs.set i (.tup (cs.set j t))) := by
  obtain ⟨cs', e, hm, hc⟩ := g.at hi
  cases e
  refine ⟨g.n1, g.n3, by rw [List.length_set]; exact g.l1, by rw [List.length_set]; exact g.l10, g.m1, g.m10, fun e he => ?_⟩
  rcases List.mem_or_eq_of_mem_set he with he | rfl
  · exact g.row e he
  · refine ⟨_, rfl, by rw [List.length_set]; exact hm, fun c hc' => ?_⟩
    rcases List.mem_or_eq_of_mem_set hc' with hc' | rfl
    · exact hc c hc'
    · exact ht
theorem cl_nref {n : Int} {c : D} (h : isCl n c = true) : c.nref = true := by
  rcases cl_of h with rfl | ⟨u, rfl, _⟩
  · simp only [D.nref]
  · exact nref_un u
theorem Grd.nrefs {n : Int} {m : Nat} {xs cs : List D} (g : Grd n m xs) (h : D.tup cs ∈ xs) : D.nrefs cs = true := by
  obtain ⟨cs', e, _, hc⟩ := g.row _ h
  cases e
  exact nrefs_of fun c hc' => cl_nref (hc c hc')
theorem Grd.fine {n : Int} {m : Nat} {xs : List D} (g : Grd n m xs) : (D.tup xs).fine = true := lays_fine g.ok.lays (by decide)
theorem cl_fine {n : Int} {c : D} (h : isCl n c = true) : c.fine = true := lays_fine (cl_lays h) (by decide)
/-- is it the number of one of so many -/
def inI (x : D) (n : Int) : Bool := x.isInt && decide (0 ≤ x.toI) && decide (x.toI < n)
theorem inI_of {x : D} {n : Int} (h : inI x n = true) : ∃ a : Nat, x = .int (a : Int) ∧ (a : Int) < n := by
  unfold inI at h
  simp only [Bool.and_eq_true, decide_eq_true_eq] at h
  obtain ⟨i, rfl⟩ := isInt_of h.1.1
  obtain ⟨a, rfl⟩ := Int.eq_ofNat_of_zero_le h.1.2
  exact ⟨a, rfl, h.2⟩
theorem inI_nat {a : Nat} {n : Int} : inI (.int (a : Int)) n = decide ((a : Int) < n) := by
  show (true && decide ((0 : Int) ≤ a) && decide ((a : Int) < n)) = _
  rw [decide_eq_true (show (0 : Int) ≤ a by omega)]
  rfl
/-! ### all bottoms' least common multiple -/
def stepE (m : Int) (e : D) : Int := ((Nat.lcm m.natAbs (botD e).natAbs : Nat) : Int)
def stepC (m : Int) (c : D) : Int := (items c).foldl stepE m
def stepR (m : Int) (e : D) : Int := (items e).foldl stepC m
def botX (xs : List D) : Int := xs.foldl stepR 1
def unitsR (e : D) : List D := (items e).filter fun c => !c.isNon
theorem fold_units (cs : List D) (m : Int) : (cs.filter fun c => !c.isNon).foldl stepC m = cs.foldl stepC m := by
  induction cs generalizing m with
  | nil => rfl
  | cons c cs ih =>
    cases hc : c.isNon with
    | false =>
      rw [List.filter_cons_of_pos (by rw [hc]; rfl), List.foldl_cons, List.foldl_cons]
      exact ih _
    | true =>
      rw [List.filter_cons_of_neg (by rw [hc]; simp), List.foldl_cons, ih]
      have e : c = .non := by cases c <;> first | rfl | cases hc
      rw [e]
      rfl
theorem fold_rowsU (xs : List D) (m : Int) : (xs.flatMap unitsR).foldl stepC m = xs.foldl stepR m := by
  induction xs generalizing m with
  | nil => rfl
  | cons e xs ih =>
    rw [List.flatMap_cons, List.foldl_append, List.foldl_cons, ih]
    unfold unitsR
    rw [fold_units]
    rfl
/-- what such a multiple can be -/
def Lc (m : Int) : Prop := 0 < m ∧ m ∣ 12
theorem lc_one : Lc 1 := ⟨by decide, ⟨12, rfl⟩⟩
theorem Lc.le {m : Int} (h : Lc m) : m ≤ 12 := Int.le_of_dvd (by decide) h.2
theorem lc_step {m b : Int} (h : Lc m) (h1 : 1 ≤ b) (h4 : b ≤ 4) : Lc ((Nat.lcm m.natAbs b.natAbs : Nat) : Int) := by
  have hb : b ∣ 12 := by
    have : b = 1 ∨ b = 2 ∨ b = 3 ∨ b = 4 := by omega
    rcases this with rfl | rfl | rfl | rfl
    · exact ⟨12, rfl⟩
    · exact ⟨6, rfl⟩
    · exact ⟨4, rfl⟩
    · exact ⟨3, rfl⟩
  have d : Nat.lcm m.natAbs b.natAbs ∣ 12 := Nat.lcm_dvd (Int.natAbs_dvd_natAbs.mpr h.2) (Int.natAbs_dvd_natAbs.mpr hb)
  refine ⟨?_, Int.ofNat_dvd.mpr d⟩
  have := Nat.lcm_pos (m := m.natAbs) (n := b.natAbs) (by have := h.1; omega) (by omega)
  omega
theorem fold_snoc {f : Int → D → Int} {l : List D} {i : Nat} {d : D} (a : Int) (h : l[i]? = some d) : (l.take (i + 1)).foldl f a = f ((l.take i).foldl f a) d := by
  rw [← take_snoc h, List.foldl_append]
  rfl
theorem lc_foldE {u : List Fr} (hu : ∀ p ∈ u, IsF p ∧ p.1.natAbs ≤ 6 ∧ p.2 ≤ 4) : ∀ {m : Int}, Lc m → Lc ((u.map fr).foldl stepE m) := by
  induction u with
  | nil => intro m h; exact h
  | cons p u ih =>
    intro m h
    have hp := hu p List.mem_cons_self
    exact ih (fun q hq => hu q (List.mem_cons_of_mem _ hq)) (lc_step (b := p.2) h hp.1.1 hp.2.2)
theorem lc_cell {n : Int} {c : D} (hc : isCl n c = true) {m : Int} (h : Lc m) : Lc (stepC m c) := by
  rcases cl_of hc with rfl | ⟨u, rfl, _, hu⟩
  · exact h
  · exact lc_foldE hu h
theorem lc_cells {n : Int} : ∀ {cs : List D}, (∀ c ∈ cs, isCl n c = true) → ∀ {m : Int}, Lc m → Lc (cs.foldl stepC m)
  | [], _, _, h => h
  | c :: cs, hc, m, h => lc_cells (fun d hd => hc d (List.mem_cons_of_mem _ hd)) (lc_cell (hc c List.mem_cons_self) h)
theorem lc_rows {n : Int} {k : Nat} : ∀ {xs : List D}, (∀ e ∈ xs, ∃ cs, e = .tup cs ∧ cs.length = k ∧ ∀ c ∈ cs, isCl n c = true) → ∀ {m : Int}, Lc m → Lc (xs.foldl stepR m)
  | [], _, _, h => h
  | e :: xs, hx, m, h => by
    obtain ⟨cs, rfl, _, hc⟩ := hx e List.mem_cons_self
    exact lc_rows (fun d hd => hx d (List.mem_cons_of_mem _ hd)) (m := stepR m (.tup cs)) (lc_cells hc h)
theorem Grd.lc {n : Int} {k : Nat} {xs : List D} (g : Grd n k xs) : Lc (botX xs) := lc_rows g.row lc_one
end PD
namespace PD
open PySem PySem.Spec PyProof.Rows L2
open PDX PDI PDT
open AutoSeq1 (wpAny_loadPart')
/-- a tuple once is itself -/
theorem tup_once (l : Addr) (its : Array Value) (n : Nat) (dd : Option Addr) (sl : Array (Option Value)) (u : Tok) : PySem.Meets (Builtin.«tuple.__mul__» ⟨[.ref l, .int 1 u], []⟩)
    (fun _ R s => s.heap.get? l = some { cls := .type "tuple", dict := dd, data := .seq its n, slots := sl } ∧ R (.ok (.ret (Value.ref l))) s) :=
  .of_wp fun prog w A R s h => by
    obtain ⟨hp, g, d, tk, os⟩ := s
    obtain ⟨hl, h⟩ := h
    have f1 := AutoSeq1.idx_int
    have c1 : (its.isEmpty || (1 : Int) == 1) = true := by cases its.isEmpty <;> rfl
    wp_walk using wpAny_loadPart' hl
    repeat (first
      | (refine wpAny_ite_true (decide_eq_true (by rw [c1])) ?_; wp_walk using wpAny_loadPart' hl)
      | (refine wpAny_ite_false (decide_eq_false (by simp)) ?_; wp_walk using wpAny_loadPart' hl))
    exact ⟨_, rfl, h⟩
def rOnce (K : PySem.W.Frag) : R2 := fun x y H Q => ∃ l xs, x = .ref l ∧ y = .int 1 ∧ SqT K H l xs ∧ Q (.ref l) H
section
variable {X : Cx}
theorem op_once : OpR X (binaryOp .Mult) (rOnce X.K) := by
  intro pins s σ H x y v u Q I rx ry h
  obtain ⟨l, xs, rfl, rfl, hT, q⟩ := h
  cases rx
  obtain ⟨t, rfl⟩ := ry
  obtain ⟨its, r, it, _⟩ := I.tuple hT
  obtain ⟨⟨cls, dd, data, sl⟩, ho, hc, n, hd⟩ := it
  simp only at hc hd
  subst hc hd
  have told : wpAny (model X.prog X.w) X.A (call (.builtin "tuple.__mul__") [.ref l, .int 1 t]) (EP X pins σ Q) X.xe s :=
    call_meets F.slot_tuple_mul ⟨_, ho, rfl⟩ F.entry_tuple_mul (F.args_tuple_mul_2 _ _) (tup_once l its.toArray n dd sl t) ⟨ho, .ref l, H, I, rfl, q⟩
  exact wpAny_binaryOp_repeat_ref (T := "tuple") (U := "int") (by decide) ⟨_, ho, rfl⟩ (fun s' => typeIs_int s' 1 t) noFill_tuple_mul F.fills_int_mul F.slot_int_rmul repeat_tuple F.slot_int_index.lookup
    (call_meets F.slot_int_rmul (typeIs_int s 1 t) F.entry_int_rmul (F.args_int_rmul_2 _ _) (int_rmul_tuple 1 t l its.toArray n dd sl) ⟨ho, rfl, ⟨_, ho, rfl⟩, told⟩)
end
def rRepN (K : PySem.W.Frag) : R2 := rOr (rRepT K) (rOnce K)
theorem op_repNK {X : Cx} {K : PySem.W.Frag} (h : X.K = K) : OpR X (binaryOp .Mult) (rRepN K) := by subst h; exact opOr op_repT op_once
theorem rd_repN {W : Wd} {P : D → Prop} {xs : List D} {k : Int} (hne : xs ≠ []) (h1 : 1 ≤ k) (hk : k ≤ 1000) (hl : xs.length ≤ 1000) (h : P (.tup (List.replicate k.toNat xs).flatten)) : RD W (rRepN W.K) (.tup xs) (.int k) P := by
  by_cases z : k = 1
  · subst z
    refine rd_orr fun M H v u w r1 r2 Q q => ?_
    cases r2
    have e : (List.replicate (1 : Int).toNat xs).flatten = xs := by simp
    rw [e] at h
    cases r1 with
    | tup hs hr => exact ⟨_, _, rfl, rfl, hs, q _ _ H w.g (Keep.refl H) (.tup hs hr) h⟩
  · exact rd_orl (rd_repT hne (by omega) hk hl h)
/-! ### == both ways about -/
mutual
theorem eqv_sym : ∀ a b : PyData, PyData.eqv a b = PyData.eqv b a
  | .tuple xs, .tuple ys => by simp only [PyData.eqv]; exact eqvs_sym xs ys
  | .list xs, .list ys => by simp only [PyData.eqv]; exact eqvs_sym xs ys
  | .none, b | .bool _, b | .int _, b | .str _, b | .dict _, b => by cases b <;> simp [PyData.eqv, Bool.beq_comm, eq_comm]
  | .tuple _, .none | .tuple _, .bool _ | .tuple _, .int _ | .tuple _, .str _ | .tuple _, .dict _ | .tuple _, .list _ => by simp [PyData.eqv]
  | .list _, .none | .list _, .bool _ | .list _, .int _ | .list _, .str _ | .list _, .dict _ | .list _, .tuple _ => by simp [PyData.eqv]
theorem eqvs_sym : ∀ xs ys : List PyData, PyData.eqvAll xs ys = PyData.eqvAll ys xs
  | [], [] => rfl
  | [], _ :: _ => by simp [PyData.eqvAll]
  | _ :: _, [] => by simp [PyData.eqvAll]
  | x :: xs, y :: ys => by simp only [PyData.eqvAll]; rw [eqv_sym x y, eqvs_sym xs ys]
end
theorem eqvs_self : ∀ {xs : List D}, (∀ e ∈ xs, D.eqv e e = true) → PyData.eqvAll (D.pys xs) (D.pys xs) = true
  | [], _ => by simp [D.pys, PyData.eqvAll]
  | x :: xs, h => by
    simp only [D.pys, PyData.eqvAll]
    have a : PyData.eqv x.py x.py = true := h x List.mem_cons_self
    rw [a, eqvs_self fun e he => h e (List.mem_cons_of_mem _ he)]
    rfl
theorem eqvs_set : ∀ {xs : List D} {i : Nat} {x y : D}, xs[i]? = some x → (∀ e ∈ xs, D.eqv e e = true) → PyData.eqvAll (D.pys xs) (D.pys (xs.set i y)) = D.eqv x y
  | [], i, x, y, h, _ => by simp at h
  | z :: zs, 0, x, y, h, q => by
    cases h
    simp only [List.set, D.pys, PyData.eqvAll]
    rw [eqvs_self fun e he => q e (List.mem_cons_of_mem _ he), Bool.and_true]
    rfl
  | z :: zs, i + 1, x, y, h, q => by
    have a : PyData.eqv z.py z.py = true := q z List.mem_cons_self
    simp only [List.set, D.pys, PyData.eqvAll]
    rw [a, Bool.true_and]
    exact eqvs_set (by simpa using h) fun e he => q e (List.mem_cons_of_mem _ he)
theorem eqv_tup (xs ys : List D) : D.eqv (.tup xs) (.tup ys) = PyData.eqvAll (D.pys xs) (D.pys ys) := by
  show PyData.eqv (D.py _) (D.py _) = _
  simp only [D.py, PyData.eqv]
/-- a cell told anew: as before, or not -/
theorem Grd.eq_set {n : Int} {m : Nat} {xs cs : List D} (g : Grd n m xs) {i j : Nat} {c t : D} (hi : xs[i]? = some (.tup cs)) (hj : cs[j]? = some c) : D.eqv (.tup xs) (.tup (xs.set i (.tup (cs.set j t)))) = D.eqv c t := by
  obtain ⟨cs', e, _, hc⟩ := g.at hi
  cases e
  have ec : ∀ e ∈ cs, D.eqv e e = true := fun e he => D.eqv_self (cl_fine (hc e he))
  rw [eqv_tup, eqvs_set hi fun e he => ?_, eqv_tup, eqvs_set hj ec]
  obtain ⟨ds, rfl, _, hd⟩ := g.row e he
  rw [eqv_tup]
  exact eqvs_self fun e he => D.eqv_self (cl_fine (hd e he))
theorem D.eqv_sym (a b : D) : D.eqv a b = D.eqv b a := PD.eqv_sym a.py b.py
theorem Grd.jd {K : PySem.W.Frag} {n : Int} {m : Nat} {xs : List D} (g : Grd n m xs) : Jd K (.tup xs) := (Gd.tup (fun x hx => by
  obtain ⟨cs, rfl, hl, hc⟩ := g.row x hx
  exact Gd.tup (fun y hy => cl_gd g.n3 (hc y hy)) (by have := g.m10; omega)) (by have := g.l10; omega)).j
theorem rc_int1b {W : Wd} {P : D → Prop} {k : Bool} (h : P (.int (if k then 1 else 0))) : RCD W (fun xs H Q => (∃ i, xs = [.int i] ∧ Q (.int i) H) ∨ ∃ k, xs = [.bl k] ∧ Q (.int (if k then 1 else 0)) H) [.bl k] P := fun M H vs w r Q q => by
  cases r with
  | cons r1 r2 =>
    cases r2
    cases r1
    exact .inr ⟨k, rfl, q _ _ H w.g (Keep.refl H) (.int _) h⟩
end PD
namespace PDZ
open PySem PySem.Spec PyProof.Rows L2 RZ
section
variable {w : World} {prog : Program} {s : Shared} {A : Around} {E : Value → Shared → Prop}
abbrev zo (h : Heap) (z TI TO : Addr) (v : Value) (f : Bool) : Prop := h.get? z = some { cls := .type "zip", dict := none, data := .fields #[v, .bool f, .bool false, .ref TI, .ref TO], slots := #[] }
/-- is the pair that was handed out last still there? whichever, a new one comes -/
theorem zip_free {z TI TO : Addr} {v : Value} {f : Bool} {Q : Bool → Shared → Prop} (hv : v = .none ∨ ∃ T : Addr, v = rawInt T) (hz : zo s.heap z TI TO v f)
    (h : ∀ b h' f', zo h' z TI TO v f' → Heap.SameBut z s.heap h' → Q b { s with heap := h' }) : wpAny (model prog w) A (Builtin.SmallTypes.ownedTupleIsFree (.ref z)) Q E s := by
  unfold Builtin.SmallTypes.ownedTupleIsFree
  rcases hv with rfl | ⟨T, rfl⟩
  · exact wpAny_bind (wpAny_field hz rfl (x := .none) rfl (wpAny_pure (h true s.heap f hz (Heap.SameBut.refl _ _))))
  · refine wpAny_bind (wpAny_field hz rfl (x := rawInt T) rfl ?_)
    have there : ∀ {a : Addr} {R : Option Obj → Shared → Prop}, R (s.heap.get? a) s → wpAny (model prog w) A (loadIfAlive a) R E s := fun q _ _ _ => q
    refine wpAny_bind (m := loadIfAlive (T : Int).toNat) (there ?_)
    cases s.heap.get? (T : Int).toNat with
    | none => exact wpAny_pure (h true s.heap f hz (Heap.SameBut.refl _ _))
    | some o =>
      cases f with
      | true => exact wpAny_bind (wpAny_field hz rfl (x := .bool true) rfl (wpAny_pure (h false s.heap true hz (Heap.SameBut.refl _ _))))
      | false => exact wpAny_bind (wpAny_field hz rfl (x := .bool false) rfl (wpAny_bind (wpAny_setField_rec hz (by simp) fun g z' b' => wpAny_pure (h false g true z' b'))))
/-- what stays: all but the zip's own objects -/
def Kept5 (z TO i1 i2 : Addr) (h h' : Heap) : Prop := ∀ c o, c ≠ z → c ≠ TO → c ≠ i1 → c ≠ i2 → h.get? c = some o → h'.get? c = some o
/-- the two iterators' next items; TO may get them, too -/
theorem zip_item {z TI TO i1 i2 l1 l2 : Addr} {k1 k2 : Nat} {xs ys : Array Value} {x y a b v : Value} {f : Bool} {Q : Value → Shared → Prop} (D : ZipApart z TI TO i1 i2 l1 l2) (hv : v = .none ∨ ∃ T : Addr, v = rawInt T)
    (hz : zo s.heap z TI TO v f) (pI : IsPair s.heap TI (.ref i1) (.ref i2)) (pO : IsPair s.heap TO a b) (t1 : s.heap.IsTupleIter i1 l1 k1) (t2 : s.heap.IsTupleIter i2 l2 k2) (s1 : s.heap.IsTuple l1 xs) (s2 : s.heap.IsTuple l2 ys) (gx : xs[k1]? = some x) (gy : ys[k2]? = some y)
    (q : ∀ h' v' f', (v' = .none ∨ ∃ T : Addr, v' = rawInt T) → zo h' z TI TO v' f' → (∃ a b, IsPair h' TO a b) → h'.IsTupleIter i1 l1 (k1 + 1) → h'.IsTupleIter i2 l2 (k2 + 1) → IsPair h' s.heap.objs.size x y → h'.objs.size = s.heap.objs.size + 1 →
      Kept5 z TO i1 i2 s.heap h' → Q (.ref s.heap.objs.size) { s with heap := h' }) :
    wpAny (model prog w) A (Builtin.«zip.__next__» ⟨[.ref z], []⟩) (fun fin s' => ∃ u, fin = .done (.ret u) ∧ Q u s') E s := by
  refine wpAny_bind (m := field (.ref z) 2) (wpAny_field hz rfl (x := .bool false) rfl ?_)
  refine wpAny_bind (m := field (.ref z) 3) (wpAny_field hz rfl (x := .ref TI) rfl (wpAny_bind (wpAny_seqItems pI rfl ?_)))
  refine wpAny_bind (m := Builtin.SmallTypes.ownedTupleIsFree (.ref z)) (zip_free hv hz fun free g f' hg gs => ?_)
  have gk : ∀ c o, c ≠ z → s.heap.get? c = some o → g.get? c = some o := gs.extBut
  have a1 := t1.extBut gs.extBut D.i1z
  have a2 := t2.extBut gs.extBut D.i2z
  have b1 := s1.extBut gs.extBut D.l1z
  have b2 := s2.extBut gs.extBut D.l2z
  have oO : IsPair g TO a b := gk _ _ D.TOz pO
  cases free with
  | false =>
    simp only [Bool.false_eq_true, if_false, ← Array.forIn_toList, List.forIn_cons, List.forIn_nil]
    refine wpAny_bind (wpAny_bind (wpAny_bind (wpAny_holding (wpAny_bind (m := Builtin.SmallTypes.nextOf (.ref i1)) (nextOf_tuple_item a1 b1 gx fun h2 c1 e2 => wpAny_pure (wpAny_pure ?_))))))
    refine wpAny_bind (wpAny_bind (wpAny_holding (wpAny_bind (m := Builtin.SmallTypes.nextOf (.ref i2)) (nextOf_tuple_item (a2.extBut e2.extBut D.i12.symm) (b2.extBut e2.extBut D.l2i1) gy fun h3 c2 e3 => wpAny_pure (wpAny_pure (wpAny_pure ?_))))))
    refine wpAny_bind (m := newTuple [x, y]) (wpAny_newTuple (wpAny_pure ⟨_, rfl, ?_⟩))
    have sz : h3.objs.size = s.heap.objs.size := e3.1.trans (e2.1.trans gs.1)
    have z3 : zo h3 z TI TO v f' := e3.extBut _ _ D.i2z.symm (e2.extBut _ _ D.i1z.symm hg)
    have o3 : IsPair h3 TO a b := e3.extBut _ _ D.TOi2 (e2.extBut _ _ D.TOi1 oO)
    have up : ∀ {c : Addr} {o : Obj}, h3.get? c = some o → (h3.push { cls := .type "tuple", data := .seq #[x, y] }).get? c = some o := fun e => Heap.get?_push_of_some _ e
    have got : IsPair (h3.push { cls := .type "tuple", data := .seq #[x, y] }) h3.objs.size x y := Heap.get?_push_size _ rfl
    have more : (h3.push { cls := .type "tuple", data := .seq #[x, y] }).objs.size = h3.objs.size + 1 := Heap.size_push ..
    rw [sz] at got more
    show Q (.ref h3.objs.size) _
    rw [sz]
    exact q _ v f' hv (up z3) ⟨a, b, up o3⟩ ((c1.extBut e3.extBut D.i12).at fun o e => up e) (c2.at fun o e => up e) got more fun c o n1 _ n3 n4 e => up (e3.extBut _ _ n4 (e2.extBut _ _ n3 (gk c o n1 e)))
  | true =>
    simp only [if_true, List.zipIdx_cons, List.zipIdx_nil, List.forIn_cons, List.forIn_nil]
    refine wpAny_bind (wpAny_rule (wpAny_bind (wpAny_field hg rfl (x := .ref TO) rfl (wpAny_bind (wpAny_setField_rec hg (by simp) fun h1 z1 e1 => ?_)))))
    replace z1 : zo h1 z TI TO .ellipsis f' := z1
    refine wpAny_bind (wpAny_bind (wpAny_bind (wpAny_onRaise (wpAny_bind (m := Builtin.SmallTypes.nextOf (.ref i1)) (nextOf_tuple_item (a1.extBut e1.extBut D.i1z) (b1.extBut e1.extBut D.l1z) gx fun h2 c1 e2 => wpAny_pure ?_)))))
    have o2 : IsPair h2 TO a b := e2.extBut _ _ D.TOi1 (e1.extBut _ _ D.TOz oO)
    refine wpAny_bind (wpAny_seqItems o2 rfl (wpAny_bind (wpAny_updateSeq_pair o2 fun h3 o3 e3 => wpAny_bind (wpAny_letGo (wpAny_pure ?_)))))
    replace o3 : IsPair h3 TO x b := o3
    refine wpAny_bind (wpAny_bind (wpAny_onRaise (wpAny_bind (m := Builtin.SmallTypes.nextOf (.ref i2)) (nextOf_tuple_item (((a2.extBut e1.extBut D.i2z).extBut e2.extBut D.i12.symm).extBut e3.extBut D.TOi2.symm) (((b2.extBut e1.extBut D.l2z).extBut e2.extBut D.l2i1).extBut e3.extBut D.l2TO) gy fun h4 c2 e4 => wpAny_pure ?_))))
    have o4 : IsPair h4 TO x b := e4.extBut _ _ D.TOi2 o3
    refine wpAny_bind (wpAny_seqItems o4 rfl (wpAny_bind (wpAny_updateSeq_pair o4 fun h5 o5 e5 => wpAny_bind (wpAny_letGo (wpAny_pure (wpAny_pure ?_))))))
    replace o5 : IsPair h5 TO x y := o5
    refine wpAny_bind (wpAny_seqItems o5 rfl (wpAny_bind (m := newTuple [x, y]) (wpAny_newTuple ?_)))
    have sz : h5.objs.size = s.heap.objs.size := e5.1.trans (e4.1.trans (e3.1.trans (e2.1.trans (e1.1.trans gs.1))))
    have kk : ∀ {c : Addr} {o : Obj}, c ≠ TO → c ≠ i1 → c ≠ i2 → h1.get? c = some o → h5.get? c = some o := fun n2 n3 n4 e => e5.extBut _ _ n2 (e4.extBut _ _ n4 (e3.extBut _ _ n2 (e2.extBut _ _ n3 e)))
    have z5 : zo h5 z TI TO .ellipsis f' := kk D.TOz.symm D.i1z.symm D.i2z.symm z1
    have d1 : h5.IsTupleIter i1 l1 (k1 + 1) := ((c1.extBut e3.extBut D.TOi1.symm).extBut e4.extBut D.i12).extBut e5.extBut D.TOi1.symm
    have d2 : h5.IsTupleIter i2 l2 (k2 + 1) := c2.extBut e5.extBut D.TOi2.symm
    have lz : z ≠ h5.objs.size := Nat.ne_of_lt (Heap.lt_size z5)
    unfold Builtin.SmallTypes.ownedTupleHandOut
    have z6 : zo (h5.push { cls := .type "tuple", data := .seq #[x, y] }) z TI TO .ellipsis f' := Heap.get?_push_of_some _ z5
    refine wpAny_bind (wpAny_bind (wpAny_setField_rec z6 (by simp) fun h7 z7 e7 => ?_))
    replace z7 : zo h7 z TI TO (rawInt h5.objs.size) f' := z7
    refine wpAny_setField_rec z7 (by simp) fun h8 z8 e8 => wpAny_pure ⟨_, rfl, ?_⟩
    replace z8 : zo h8 z TI TO (rawInt h5.objs.size) false := z8
    have up : ∀ {c : Addr} {o : Obj}, c ≠ z → (h5.push { cls := .type "tuple", data := .seq #[x, y] }).get? c = some o → h8.get? c = some o := fun n e => e8.extBut _ _ n (e7.extBut _ _ n e)
    have old : ∀ {c : Addr} {o : Obj}, c ≠ z → h5.get? c = some o → h8.get? c = some o := fun n e => up n (Heap.get?_push_of_some _ e)
    have got : IsPair h8 h5.objs.size x y := up lz.symm (Heap.get?_push_size _ rfl)
    have more : h8.objs.size = h5.objs.size + 1 := e8.1.trans (e7.1.trans (Heap.size_push ..))
    rw [sz] at z8 got more
    show Q (.ref h5.objs.size) _
    rw [sz]
    exact q h8 _ false (.inr ⟨_, rfl⟩) z8 ⟨x, y, old D.TOz o5⟩ (d1.at fun o e => old D.i1z e) (d2.at fun o e => old D.i2z e) got more fun c o n1 n2 n3 n4 e => old n1 (kk n2 n3 n4 (e1.extBut _ _ n1 (gk c o n1 e)))
/-- one of both has no item more -/
theorem zip_end {z TI TO i1 i2 l1 l2 : Addr} {k1 k2 : Nat} {xs ys : Array Value} {a b v : Value} {f : Bool} {Q : Fin → Shared → Prop} (calm : A.handled = none) (D : ZipApart z TI TO i1 i2 l1 l2) (hv : v = .none ∨ ∃ T : Addr, v = rawInt T)
    (hz : zo s.heap z TI TO v f) (pI : IsPair s.heap TI (.ref i1) (.ref i2)) (pO : IsPair s.heap TO a b) (t1 : s.heap.IsTupleIter i1 l1 k1) (t2 : s.heap.IsTupleIter i2 l2 k2) (s1 : s.heap.IsTuple l1 xs) (s2 : s.heap.IsTuple l2 ys) (no : xs[k1]? = none ∨ ys[k2]? = none)
    (q : ∀ h' e, Kept5 z TO i1 i2 s.heap h' → (∃ o, h'.get? e = some o ∧ o.cls = .type "StopIteration") → E (.ref e) { s with heap := h' }) :
    wpAny (model prog w) A (Builtin.«zip.__next__» { pos := [.ref z], kw := [] }) Q E s := by
  refine wpAny_bind (m := field (.ref z) 2) (wpAny_field hz rfl (x := .bool false) rfl ?_)
  refine wpAny_bind (m := field (.ref z) 3) (wpAny_field hz rfl (x := .ref TI) rfl (wpAny_bind (wpAny_seqItems pI rfl ?_)))
  refine wpAny_bind (m := Builtin.SmallTypes.ownedTupleIsFree (.ref z)) (zip_free hv hz fun free g f' hg gs => ?_)
  have gk : ∀ c o, c ≠ z → s.heap.get? c = some o → g.get? c = some o := gs.extBut
  have a1 := t1.extBut gs.extBut D.i1z
  have a2 := t2.extBut gs.extBut D.i2z
  have b1 := s1.extBut gs.extBut D.l1z
  have b2 := s2.extBut gs.extBut D.l2z
  have oO : IsPair g TO a b := gk _ _ D.TOz pO
  cases free with
  | false =>
    simp only [Bool.false_eq_true, if_false, ← Array.forIn_toList, List.forIn_cons, List.forIn_nil]
    cases gx : xs[k1]? with
    | none => exact wpAny_bind (wpAny_bind (wpAny_bind (wpAny_holding (wpAny_bind (m := Builtin.SmallTypes.nextOf (.ref i1)) (nextOf_tuple_end calm a1 b1 gx fun h2 e e2 he => q h2 e (fun c o n1 _ n3 _ y => e2 _ _ n3 (gk c o n1 y)) he)))))
    | some x =>
      have gy : ys[k2]? = none := no.resolve_left (by rw [gx]; simp)
      refine wpAny_bind (wpAny_bind (wpAny_bind (wpAny_holding (wpAny_bind (m := Builtin.SmallTypes.nextOf (.ref i1)) (nextOf_tuple_item a1 b1 gx fun h2 c1 e2 => wpAny_pure (wpAny_pure ?_))))))
      exact wpAny_bind (wpAny_bind (wpAny_holding (wpAny_bind (m := Builtin.SmallTypes.nextOf (.ref i2)) (nextOf_tuple_end calm (a2.extBut e2.extBut D.i12.symm) (b2.extBut e2.extBut D.l2i1) gy fun h3 e e3 he => q h3 e (fun c o n1 _ n3 n4 y => e3 _ _ n4 (e2.extBut _ _ n3 (gk c o n1 y))) he))))
  | true =>
    simp only [if_true, List.zipIdx_cons, List.zipIdx_nil, List.forIn_cons, List.forIn_nil]
    refine wpAny_bind (wpAny_rule (wpAny_bind (wpAny_field hg rfl (x := .ref TO) rfl (wpAny_bind (wpAny_setField_rec hg (by simp) fun h1 z1 e1 => ?_)))))
    replace z1 : zo h1 z TI TO .ellipsis f' := z1
    have notz : ∀ {h : Heap} {e : Addr} {o : Obj}, zo h z TI TO .ellipsis f' → h.get? e = some o → o.cls = .type "StopIteration" → e ≠ z := fun hz' he hc y => by
      rw [y, hz'] at he
      rw [← Option.some.inj he] at hc
      simp at hc
    cases gx : xs[k1]? with
    | none =>
      refine wpAny_bind (wpAny_bind (wpAny_bind (wpAny_onRaise (wpAny_bind (m := Builtin.SmallTypes.nextOf (.ref i1)) (nextOf_tuple_end calm (a1.extBut e1.extBut D.i1z) (b1.extBut e1.extBut D.l1z) gx fun h2 e e2 he => ?_)))))
      obtain ⟨o, ho, hc⟩ := he
      have z2 : zo h2 z TI TO .ellipsis f' := e2 _ _ D.i1z.symm z1
      exact wpAny_setField_rec z2 (by simp) fun h3 _ e3 => q h3 e (fun c o n1 _ n3 _ y => e3.extBut _ _ n1 (e2 _ _ n3 (e1.extBut _ _ n1 (gk c o n1 y)))) ⟨o, e3.extBut _ _ (notz z2 ho hc) ho, hc⟩
    | some x =>
      have gy : ys[k2]? = none := no.resolve_left (by rw [gx]; simp)
      refine wpAny_bind (wpAny_bind (wpAny_bind (wpAny_onRaise (wpAny_bind (m := Builtin.SmallTypes.nextOf (.ref i1)) (nextOf_tuple_item (a1.extBut e1.extBut D.i1z) (b1.extBut e1.extBut D.l1z) gx fun h2 c1 e2 => wpAny_pure ?_)))))
      have o2 : IsPair h2 TO a b := e2.extBut _ _ D.TOi1 (e1.extBut _ _ D.TOz oO)
      refine wpAny_bind (wpAny_seqItems o2 rfl (wpAny_bind (wpAny_updateSeq_pair o2 fun h3 o3 e3 => wpAny_bind (wpAny_letGo (wpAny_pure ?_)))))
      refine wpAny_bind (wpAny_bind (wpAny_onRaise (wpAny_bind (m := Builtin.SmallTypes.nextOf (.ref i2)) (nextOf_tuple_end calm (((a2.extBut e1.extBut D.i2z).extBut e2.extBut D.i12.symm).extBut e3.extBut D.TOi2.symm) (((b2.extBut e1.extBut D.l2z).extBut e2.extBut D.l2i1).extBut e3.extBut D.l2TO) gy fun h4 e e4 he => ?_))))
      obtain ⟨o, ho, hc⟩ := he
      have z4 : zo h4 z TI TO .ellipsis f' := e4 _ _ D.i2z.symm (e3.extBut _ _ D.TOz.symm (e2.extBut _ _ D.i1z.symm z1))
      exact wpAny_setField_rec z4 (by simp) fun h5 _ e5 => q h5 e (fun c o n1 n2 n3 n4 y => e5.extBut _ _ n1 (e4 _ _ n4 (e3.extBut _ _ n2 (e2.extBut _ _ n3 (e1.extBut _ _ n1 (gk c o n1 y)))))) ⟨o, e5.extBut _ _ (notz z4 ho hc) ho, hc⟩
/-- how a zip over two tuples stands at its i-th turn, whatever became of its pairs -/
structure ZSt (a b z TI TO i1 i2 : Addr) (i : Nat) (h : Heap) : Prop where
  ob : ∃ v f, (v = .none ∨ ∃ T : Addr, v = rawInt T) ∧ zo h z TI TO v f
  pI : IsPair h TI (.ref i1) (.ref i2)
  pO : ∃ c d, IsPair h TO c d
  t1 : h.IsTupleIter i1 a i
  t2 : h.IsTupleIter i2 b i
theorem five {z TI TO i1 i2 c : Addr} (h : c ∈ [z, TI, TO, i1, i2]) : c = z ∨ c = TI ∨ c = TO ∨ c = i1 ∨ c = i2 := by
  simp only [List.mem_cons, List.not_mem_nil, or_false] at h
  exact h
theorem ZSt.has {a b z TI TO i1 i2 c : Addr} {i : Nat} {h : Heap} (st : ZSt a b z TI TO i1 i2 i h) (hc : c ∈ [z, TI, TO, i1, i2]) : ∃ o, h.get? c = some o ∧ ∀ v, o.data ≠ .cell v := by
  obtain ⟨v, f, _, ho⟩ := st.ob
  obtain ⟨c1, d1, hO⟩ := st.pO
  obtain ⟨o1, e1, _, q1⟩ := st.t1
  obtain ⟨o2, e2, _, q2⟩ := st.t2
  rcases five hc with rfl | rfl | rfl | rfl | rfl
  · exact ⟨_, ho, fun u y => by cases y⟩
  · exact ⟨_, st.pI, fun u y => by cases y⟩
  · exact ⟨_, hO, fun u y => by cases y⟩
  · exact ⟨o1, e1, fun u y => by rw [q1] at y; cases y⟩
  · exact ⟨o2, e2, fun u y => by rw [q2] at y; cases y⟩
theorem turn_zipN {P : Program} {w : World} {K : PySem.W.Frag} {x : Str} {xp : Pos} {a b z TI TO i1 i2 : Addr} (D : ZipApart z TI TO i1 i2 a b) : Turn P w K (.Name x xp) (ItzT K a b) [z, TI, TO, i1, i2] z (ZSt a b z TI TO i1 i2) where
  mem := List.mem_cons_self
  obj := fun i h st c hc => st.has hc
  keep := fun i h h' st k => by
    obtain ⟨v, f, hv, ho⟩ := st.ob
    obtain ⟨c1, d1, hO⟩ := st.pO
    exact ⟨⟨v, f, hv, k z (by simp) _ ho⟩, k TI (by simp) _ st.pI, ⟨c1, d1, k TO (by simp) _ hO⟩, st.t1.at fun o y => k i1 (by simp) o y, st.t2.at fun o y => k i2 (by simp) o y⟩
  item := by
    rintro X rfl rfl rfl calm i pins s σ H E I young st ⟨xs, ys, x1, y1, sx, sy, ex, ey⟩
    obtain ⟨v, f, hv, ho⟩ := st.ob
    obtain ⟨c1, d1, hO⟩ := st.pO
    obtain ⟨us, ru, pu, _⟩ := I.tuple sx
    obtain ⟨ws, rw', pw, _⟩ := I.tuple sy
    obtain ⟨u, hu, ru1⟩ := ru.get ex
    obtain ⟨w1, hw, rw1⟩ := rw'.get ey
    have inside : ∀ c, c ∈ [z, TI, TO, i1, i2] → c ≠ s.heap.objs.size := fun c hc => by
      obtain ⟨o, e, _⟩ := st.has hc
      exact Nat.ne_of_lt (Heap.lt_size e)
    unfold pyNext
    have ty : s.TypeIs (.ref z) "zip" := ⟨_, ho, rfl⟩
    refine wpAny_bind (wpAny_attempt (wpAny_callSpecial?_slot (name := "__next__") ty F.slot_zip_next (wpAny_call_entry F.slot_zip_next ty F.entry_zip_next
      (zip_item D hv ho st.pI hO st.t1 st.t2 pu pw (x := u) (y := w1) (by simpa using hu) (by simpa using hw) fun h' v' f' hv' ho' hO' t1' t2' pr _ kk => wpAny_pure ⟨_, rfl, wpAny_pure ?_⟩) (F.args_zip_next_1 _))))
    have J : Inv X pins σ (upd H s.heap.objs.size (.tup [x1, y1])) { s with heap := h' } :=
      I.turnedNew (t' := s.toks) (ch := [z, TI, TO, i1, i2]) (fun c o n e => kk c o (fun y => n (by simp [y])) (fun y => n (by simp [y])) (fun y => n (by simp [y])) (fun y => n (by simp [y])) e) young (Nat.le_refl _)
        ⟨by show 2 ≤ sizeLine; decide, [u, w1], .cons ru1 (.cons rw1 .nil), ⟨_, pr, rfl, _, rfl⟩⟩
    refine ⟨.ref s.heap.objs.size, _, J, rfl, ⟨_, x1, y1, rfl, I.hok.fresh (Nat.le_refl _), rfl, fun l hl => ?_, fun l hl => ?_⟩, ⟨⟨v', f', hv', ho'⟩, kk _ _ D.TIz D.TITO D.TIi1 D.TIi2 st.pI, hO', t1', t2'⟩, fun c hc => (upd_ne (inside c hc)).trans (young c hc).1⟩
    · rw [I.tuple_inj hl sx]
      exact ex
    · rw [I.tuple_inj hl sy]
      exact ey
  done := by
    rintro X rfl rfl rfl calm i pins s σ H E I young st ⟨xs, ys, sx, sy, no⟩
    obtain ⟨v, f, hv, ho⟩ := st.ob
    obtain ⟨c1, d1, hO⟩ := st.pO
    obtain ⟨us, ru, pu, _⟩ := I.tuple sx
    obtain ⟨ws, rw', pw, _⟩ := I.tuple sy
    have no' : us.toArray[i]? = none ∨ ws.toArray[i]? = none := by
      have q1 := ru.length
      have q2 := rw'.length
      rcases no with y | y
      · left; simp; omega
      · right; simp; omega
    have ty : s.TypeIs (.ref z) "zip" := ⟨_, ho, rfl⟩
    unfold pyNext
    refine wpAny_bind (wpAny_attempt (wpAny_callSpecial?_slot (name := "__next__") ty F.slot_zip_next (wpAny_call_entry F.slot_zip_next ty F.entry_zip_next
      (zip_end (I.ok.hd calm) D hv ho st.pI hO st.t1 st.t2 pu pw no' fun h' e kk he => ?_) (F.args_zip_next_1 _))))
    obtain ⟨o, g1, g2⟩ := he
    refine wpAny_bind (wpAny_isInstance (T := "StopIteration") (b := true) ⟨o, g1, g2⟩ isSubtype_stop (wpAny_pure ⟨rfl, ?_⟩))
    exact I.turnedL (t' := s.toks) (ch := [z, TI, TO, i1, i2]) (fun c o n e => kk c o (fun y => n (by simp [y])) (fun y => n (by simp [y])) (fun y => n (by simp [y])) (fun y => n (by simp [y])) e) young
  self := fun Ar n sh Qv Ev st h => by
    obtain ⟨v, f, _, ho⟩ := st.ob
    have ty : sh.TypeIs (.ref z) "zip" := ⟨_, ho, rfl⟩
    exact wpAny_pyIter_slot ty F.slot_zip_iter (wpAny_call_entry F.slot_zip_iter ty F.entry_zip_iter (wpAny_pure ⟨_, rfl, "zip", _, ty, F.slot_zip_next.lookup, h⟩) (F.args_zip_iter_1 _))
def iZipN (K : PySem.W.Frag) (ta : TA) : TI := fun σ H R => ta σ H fun vs H1 => ∃ a b xs ys, vs = [.ref a, .ref b] ∧ SqT K H1 a xs ∧ SqT K H1 b ys ∧ R (ItzT K a b) H1
/-- for x in zip(s, t), s and t tuples -/
theorem pi_zipN {X : Cx} {K : PySem.W.Frag} {e e2 : Expr} {ta : TA} {p pos xp : Pos} {x : Str} (hK : X.K = K) (hg : Gl X "zip") (hm : X.mg "zip" = none) (ha : PA X [e, e2] ta)
    (st : starEach [e, e2] X.env = (false, eval e X.env) :: starEach [e2] X.env := by rfl) (pl : (backTo pos (starEach [e2] X.env)).any (·.1) = false := by rfl) : PI X (.Name x xp) (.Call (.Name "zip" p) [e, e2] [] pos) (iZipN K ta) := by
  subst hK
  constructor
  intro pins s σ H R I wish
  refine Call_ (ld_blt I hg hm PyProof.Rows.boot_zip (PyProof.Rows.callWith_type1 (thn (ha.run pos pins s σ H _ I wish) ?_) st pl))
  rintro us s1 ⟨vs, H1, I1, rel, a, b, xs, ys, rfl, sx, sy, q⟩
  cases rel with
  | cons r0 r1 =>
    cases r1 with
    | cons r1 r2 =>
      cases r2
      cases r0
      cases r1
      obtain ⟨us, _, pu, _⟩ := I1.tuple sx
      obtain ⟨ws, _, pw, _⟩ := I1.tuple sy
      have la : a < s1.heap.objs.size := by
        obtain ⟨_, e, _⟩ := id pu
        exact Heap.lt_size e
      have lb : b < s1.heap.objs.size := by
        obtain ⟨_, e, _⟩ := id pw
        exact Heap.lt_size e
      refine call_zipT (show s1.heap.IsTuple a us.toArray from pu) (show s1.heap.IsTuple b ws.toArray from pw) fun h' hz hI hO t1 t2 _ hk => ?_
      have D : ZipApart (s1.heap.objs.size + 4) (s1.heap.objs.size + 2) (s1.heap.objs.size + 3) s1.heap.objs.size (s1.heap.objs.size + 1) a b := PySem.W.ktu_apart s1.heap.objs.size a b la lb
      have T := turn_zipN (P := X.prog) (w := X.w) (K := X.K) (x := x) (xp := xp) D
      have st : ZSt a b (s1.heap.objs.size + 4) (s1.heap.objs.size + 2) (s1.heap.objs.size + 3) s1.heap.objs.size (s1.heap.objs.size + 1) 0 h' := ⟨⟨.none, false, .inl rfl, hz⟩, hI, ⟨_, _, hO⟩, t1, t2⟩
      refine T.self _ 0 _ _ _ st ⟨_, _, _, _, H1, rfl, I1.kept (t' := s1.toks) hk, T, st, fun c hc => ?_, q⟩
      have le : s1.heap.objs.size ≤ c := by
        rcases five hc with y | y | y | y | y <;> (rw [y]; first | exact Nat.le_add_right _ _ | exact Nat.le_refl _)
      exact I1.fpOk le (I1.hok.fresh le)
end
end PDZ
namespace PD
open PySem PySem.Spec PyProof.Rows L2 PDZ
theorem it_zipN {W : Wd} {δ : DS} {P : List D → Prop} {ta : TA} (h : EvA W ta δ fun xs => ∃ ds es, xs = [.tup ds, .tup es] ∧ P (zipD ds es)) : IterD W (iZipN W.K ta) δ P := fun M σ H p R q => h M σ H p _ fun vs ds H1 g1 k1 r1 h1 => by
  obtain ⟨ds, es, rfl, hP⟩ := h1
  cases r1 with
  | cons r1 r2 =>
    cases r2 with
    | cons r2 r3 =>
      cases r3
      cases r1 with
      | tup hs hr =>
        cases r2 with
        | tup hs' hr' => exact ⟨_, _, _, _, rfl, hs, hs', q _ H1 _ g1 k1 hP (src_zipT (p.wf.next g1 k1) hs hr hs' hr')⟩
end PD
namespace PD
open PySem PySem.Spec PyProof.Rows L2
open PDX PDI PDT PDZ
def isPos (x : D) : Bool := isFr x && decide (0 < topD x)
def isRoots (n : Int) : D → Bool
  | .tup xs => decide ((xs.length : Int) = n) && xs.all isPos
  | _ => false
theorem pos_fr {x : D} (h : isPos x = true) : ∃ p : Fr, x = fr p ∧ IsF p ∧ 0 < p.1 := by
  unfold isPos at h
  rw [Bool.and_eq_true, decide_eq_true_eq] at h
  obtain ⟨p, rfl, hp⟩ := fr_of h.1
  exact ⟨p, rfl, hp, h.2⟩
theorem roots_un {n : Int} {y : D} (h : isRoots n y = true) : ∃ v : List Fr, y = un v ∧ (v.length : Int) = n ∧ ∀ p ∈ v, IsF p ∧ 0 < p.1 := by
  cases y with
  | tup xs =>
    simp only [isRoots, Bool.and_eq_true, decide_eq_true_eq] at h
    obtain ⟨hl, ha⟩ := h
    have all : ∀ l : List D, l.all isPos = true → ∃ v : List Fr, l = v.map fr ∧ ∀ p ∈ v, IsF p ∧ 0 < p.1 := fun l => by
      induction l with
      | nil => intro _; exact ⟨[], rfl, fun p hp => by cases hp⟩
      | cons e l ih =>
        intro q
        rw [List.all_cons, Bool.and_eq_true] at q
        obtain ⟨p, rfl, hp⟩ := pos_fr q.1
        obtain ⟨v, rfl, hv⟩ := ih q.2
        exact ⟨p :: v, rfl, fun r hr => (List.mem_cons.mp hr).elim (fun z => z ▸ hp) (hv r)⟩
    obtain ⟨v, rfl, hv⟩ := all xs ha
    rw [List.length_map] at hl
    exact ⟨v, rfl, hl, hv⟩
  | _ => cases h
/-- the rows' number and lengths -/
def shp (m : Nat) (l : Nat) : D → Bool
  | .tup rows => decide ((rows.length : Int) = l) && rows.all fun r => decide (r.len = m)
  | _ => false
def numP : D → Bool
  | .tup [u, x] => isFr x && (!u.isNon || decide (topD x = 0))
  | _ => false
def valP : D → Bool
  | .tup [u, x] => u.isNon || isPos x
  | _ => false
/-- cells and what stands beside them, row by row -/
def besD (xs rows : List D) : List D := (List.zipWith (fun e r => zipD (items e) (items r)) xs rows).flatten
def areN (m : Nat) (xs : List D) (x : D) : Bool := shp m xs.length x && (besD xs (items x)).all numP
def areV (m : Nat) (xs : List D) (x : D) : Bool := areN m xs x && (besD xs (items x)).all valP
theorem len_tup {r : D} {m : Nat} (h : r.len = m) : ∃ cs, r = .tup cs ∧ cs.length = m := by
  cases r with
  | tup cs =>
    have h : (cs.length : Int) = m := h
    exact ⟨cs, rfl, by omega⟩
  | _ => exact absurd (show (-1 : Int) = m from h) (by omega)
structure Shp (m : Nat) (xs rows : List D) : Prop where
  l : rows.length = xs.length
  r : ∀ e ∈ rows, ∃ cs, e = .tup cs ∧ cs.length = m
theorem shp_of {m : Nat} {xs : List D} {x : D} (h : shp m xs.length x = true) : ∃ rows, x = .tup rows ∧ Shp m xs rows := by
  cases x with
  | tup rows =>
    simp only [shp, Bool.and_eq_true, decide_eq_true_eq, List.all_eq_true] at h
    exact ⟨rows, rfl, by have := h.1; omega, fun e he => len_tup (h.2 e he)⟩
  | _ => cases h
theorem Shp.at {m : Nat} {xs rows : List D} (s : Shp m xs rows) {i : Nat} {e : D} (h : rows[i]? = some e) : ∃ cs, e = .tup cs ∧ cs.length = m := s.r e (List.mem_of_getElem? h)
theorem mem_bes {p : D} : ∀ {xs rows : List D}, p ∈ besD xs rows → ∃ (i j : Nat) (e r u y : D), xs[i]? = some e ∧ rows[i]? = some r ∧ (items e)[j]? = some u ∧ (items r)[j]? = some y ∧ p = .tup [u, y]
  | [], _, h => by simp [besD] at h
  | _ :: _, [], h => by simp [besD] at h
  | e :: xs, r :: rows, h => by
    unfold besD at h
    rw [List.zipWith_cons_cons, List.flatten_cons] at h
    rcases List.mem_append.mp h with h | h
    · obtain ⟨j, hj⟩ := List.mem_iff_getElem?.mp h
      obtain ⟨u, y, h1, h2, rfl⟩ := zipD_get hj
      exact ⟨0, j, e, r, u, y, rfl, rfl, h1, h2, rfl⟩
    · obtain ⟨i, j, e', r', u, y, h1, h2, h3, h4, h5⟩ := mem_bes (xs := xs) (rows := rows) h
      exact ⟨i + 1, j, e', r', u, y, h1, h2, h3, h4, h5⟩
theorem zipD_mem {ds es : List D} {j : Nat} {u y : D} (h1 : ds[j]? = some u) (h2 : es[j]? = some y) : D.tup [u, y] ∈ zipD ds es := by
  refine List.mem_of_getElem? (i := j) ?_
  unfold zipD
  rw [List.getElem?_zipWith, h1, h2]
theorem bes_mem {e r u y : D} : ∀ {xs rows : List D} {i j : Nat}, xs[i]? = some e → rows[i]? = some r → (items e)[j]? = some u → (items r)[j]? = some y → D.tup [u, y] ∈ besD xs rows
  | [], _, i, j, h, _, _, _ => by simp at h
  | _ :: _, [], i, j, _, h, _, _ => by simp at h
  | e' :: xs, r' :: rows, 0, j, h1, h2, h3, h4 => by
    cases h1
    cases h2
    unfold besD
    rw [List.zipWith_cons_cons, List.flatten_cons]
    exact List.mem_append_left _ (zipD_mem h3 h4)
  | e' :: xs, r' :: rows, i + 1, j, h1, h2, h3, h4 => by
    unfold besD
    rw [List.zipWith_cons_cons, List.flatten_cons]
    exact List.mem_append_right _ (bes_mem (xs := xs) (rows := rows) (i := i) (j := j) (by simpa using h1) (by simpa using h2) h3 h4)
theorem bes_all {p : D → Bool} {xs rows : List D} (h : ∀ (i j : Nat) (e r u y : D), xs[i]? = some e → rows[i]? = some r → (items e)[j]? = some u → (items r)[j]? = some y → p (.tup [u, y]) = true) : (besD xs rows).all p = true := by
  rw [List.all_eq_true]
  intro q hq
  obtain ⟨i, j, e, r, u, y, h1, h2, h3, h4, rfl⟩ := mem_bes hq
  exact h i j e r u y h1 h2 h3 h4
theorem bes_not {p : D → Bool} {xs rows : List D} {i j : Nat} {e r u y : D} (h1 : xs[i]? = some e) (h2 : rows[i]? = some r) (h3 : (items e)[j]? = some u) (h4 : (items r)[j]? = some y) (h : p (.tup [u, y]) = false) : (besD xs rows).all p = false := by
  rw [List.all_eq_false]
  exact ⟨_, bes_mem h1 h2 h3 h4, by rw [h]; simp⟩
theorem bes_take {xs rows : List D} {i : Nat} {e r : D} (h1 : xs[i]? = some e) (h2 : rows[i]? = some r) : besD (xs.take (i + 1)) (rows.take (i + 1)) = besD (xs.take i) (rows.take i) ++ zipD (items e) (items r) := by
  unfold besD
  rw [← take_snoc h1, ← take_snoc h2, List.zipWith_append (by
    have a := (List.getElem?_eq_some_iff.mp h1).1
    have b := (List.getElem?_eq_some_iff.mp h2).1
    rw [List.length_take, List.length_take]
    omega), List.flatten_append]
  simp
theorem zip_take {ds es : List D} {j : Nat} {d : D} (h : (zipD ds es)[j]? = some d) : (zipD ds es).take (j + 1) = (zipD ds es).take j ++ [d] := (take_snoc h).symm
theorem bes_len {m : Nat} {xs rows : List D} (hm : m ≤ 10) (hx : ∀ e ∈ xs, ∃ cs, e = .tup cs ∧ cs.length = m) : (besD xs rows).length ≤ xs.length * 10 := by
  induction xs generalizing rows with
  | nil => simp [besD]
  | cons e xs ih =>
    cases rows with
    | nil => simp [besD]
    | cons r rows =>
      obtain ⟨cs, rfl, hc⟩ := hx e List.mem_cons_self
      have h1 := ih (rows := rows) fun y hy => hx y (List.mem_cons_of_mem _ hy)
      unfold besD at h1 ⊢
      rw [List.zipWith_cons_cons, List.flatten_cons, List.length_append, List.length_cons]
      have h2 : (zipD (items (.tup cs)) (items r)).length ≤ cs.length := by
        rw [zipD_len2]
        exact Nat.min_le_left _ _
      omega
theorem Grd.tup {n : Int} {m : Nat} {xs : List D} (g : Grd n m xs) : ∀ e ∈ xs, ∃ cs, e = .tup cs ∧ cs.length = m := fun e he => by
  obtain ⟨cs, h1, h2, _⟩ := g.row e he
  exact ⟨cs, h1, h2⟩
theorem jd_fr (K : PySem.W.Frag) (p : Fr) : Jd K (fr p) := by simp only [Jd, JdA, and_self]
theorem jd_un (K : PySem.W.Frag) (u : List Fr) : Jd K (un u) := by
  simp only [Jd]
  refine jdA_of fun x hx => ?_
  obtain ⟨p, _, rfl⟩ := List.mem_map.mp hx
  exact jd_fr K p
theorem isRoots_un {v : List Fr} (h : ∀ p ∈ v, IsF p ∧ 0 < p.1) : isRoots v.length (un v) = true := by
  show (decide (((v.map fr).length : Int) = v.length) && (v.map fr).all isPos) = true
  rw [List.length_map, decide_eq_true rfl, Bool.true_and, List.all_map, List.all_eq_true]
  intro p hp
  show (isFr (fr p) && decide (0 < p.1)) = true
  rw [isFr_fr (h p hp).1, decide_eq_true (h p hp).2]
  rfl
/-- x[-1] -/
theorem rd_ixTl {W : Wd} {P : D → Prop} {ds : List D} {d : D} (h : ds[ds.length - 1]? = some d) (hP : P d) : RD W (rIx W.K) (.tup ds) (.int (-1)) P := fun M H v u w r1 r2 Q q => by
  cases r1 with
  | @tup a vs ds hs hr =>
    cases r2
    obtain ⟨x, h1, h2⟩ := hr.get h
    have l := hr.length
    have pos := (List.getElem?_eq_some_iff.mp h).1
    refine .inr (.inl ⟨_, _, -1, x, rfl, rfl, hs, ?_, q x d H w.g (Keep.refl H) h2 hP⟩)
    have e : ixN vs.length (-1) = some (ds.length - 1) := by
      unfold ixN
      rw [if_neg (by decide), if_pos (by omega)]
      congr 1
      omega
    unfold atI
    rw [e]
    exact h1
end PD
namespace PD
open PySem PySem.Spec PyProof.Rows L2
open PDX PDI PDT PDZ
/-- small enough to be taken to powers and multiplied -/
structure Rt (v : List Fr) (m k : Nat) : Prop where
  p : ∀ r ∈ v, IsF r ∧ 0 < r.1 ∧ Sz m r
  b : 3 * (m * 72 + 1) + 1 + k ≤ 8000
/-- a number in other units -/
def inO (v : List Fr) (s : Int) (c : D) (q : Fr) : Fr := match c with
  | .tup us => mulF q (facF s (1, 1) ((us.map fun e => (topD e, botD e)).zip v))
  | _ => q
theorem inO_un (v u : List Fr) (s : Int) (q : Fr) : inO v s (un u) q = mulF q (facF s (1, 1) (u.zip v)) := by
  show mulF q (facF s (1, 1) (((u.map fr).map fun e => (topD e, botD e)).zip v)) = _
  rw [List.map_map]
  have e : ((fun e => (topD e, botD e)) ∘ fr : Fr → Fr) = id := by
    funext p
    rfl
  rw [e, List.map_id]
theorem rt_exp {p : Fr} {s : Int} (hp : IsF p ∧ p.1.natAbs ≤ 6 ∧ p.2 ≤ 4) (h1 : 1 ≤ s) (h2 : s ≤ 12) : (expI s p).natAbs ≤ 72 := by
  have p1 := hp.1.1
  show (s * p.1 / p.2).natAbs ≤ 72
  have a : (s * p.1).natAbs ≤ 72 := by
    rw [Int.natAbs_mul]
    have := Nat.mul_le_mul (show s.natAbs ≤ 12 by omega) hp.2.1
    omega
  have l1 : s * p.1 / p.2 ≤ 72 := Int.le_trans (Int.ediv_le_ediv p1 (show s * p.1 ≤ 72 by omega)) (Int.ediv_le_self _ (by decide))
  have l2 : -72 ≤ s * p.1 / p.2 := by
    have : -72 / p.2 ≤ s * p.1 / p.2 := Int.ediv_le_ediv p1 (by omega)
    have : -72 ≤ -72 / p.2 := by
      rw [Int.le_ediv_iff_mul_le p1]
      omega
    omega
  omega
def frOf : D → Fr
  | .tup [.int a, .int b] => (a, b)
  | _ => (0, 1)
def resR (v : List Fr) (s : Int) (e r : D) : D := .tup (List.zipWith (fun c y => fr (inO v s c (frOf y))) (items e) (items r))
def resD (v : List Fr) (s : Int) (xs rows : List D) : List D := List.zipWith (resR v s) xs rows
/-- numbers that are there, of some size -/
def NumS (k : Nat) (rows : List D) : Prop := ∀ r ∈ rows, ∀ y ∈ items r, ∃ q : Fr, y = fr q ∧ IsF q ∧ Sz k q
def Fits (s : Int) (xs : List D) : Prop := ∀ e ∈ xs, ∀ c ∈ items e, ∀ b ∈ items c, botD b ∣ s
theorem fits_bot {n : Int} {m : Nat} {xs : List D} (g : Grd n m xs) : Fits (botX xs) xs := by
  have stepE_dvd : ∀ (l : List D) (a : Int), a ∣ l.foldl stepE a := fun l => by
    induction l with
    | nil => intro a; exact Int.dvd_refl a
    | cons e l ih =>
      intro a
      exact Int.dvd_trans (Int.dvd_trans (Int.dvd_natAbs_self) (Int.ofNat_dvd.mpr (Nat.dvd_lcm_left _ _))) (ih (stepE a e))
  have stepC_dvd : ∀ (l : List D) (a : Int), a ∣ l.foldl stepC a := fun l => by
    induction l with
    | nil => intro a; exact Int.dvd_refl a
    | cons e l ih => intro a; exact Int.dvd_trans (stepE_dvd (items e) a) (ih (stepC a e))
  have stepR_dvd : ∀ (l : List D) (a : Int), a ∣ l.foldl stepR a := fun l => by
    induction l with
    | nil => intro a; exact Int.dvd_refl a
    | cons e l ih => intro a; exact Int.dvd_trans (stepC_dvd (items e) a) (ih (stepR a e))
  have inE : ∀ (l : List D) (a : Int) (b : D), b ∈ l → botD b ∣ l.foldl stepE a := fun l => by
    induction l with
    | nil => intro a b h; cases h
    | cons e l ih =>
      intro a b h
      rcases List.mem_cons.mp h with rfl | h
      · exact Int.dvd_trans (Int.dvd_trans Int.dvd_natAbs_self (Int.ofNat_dvd.mpr (Nat.dvd_lcm_right _ _))) (stepE_dvd l (stepE a b))
      · exact ih _ b h
  have inC : ∀ (l : List D) (a : Int) (c b : D), c ∈ l → b ∈ items c → botD b ∣ l.foldl stepC a := fun l => by
    induction l with
    | nil => intro a c b h; cases h
    | cons e l ih =>
      intro a c b h hb
      rcases List.mem_cons.mp h with rfl | h
      · exact Int.dvd_trans (inE (items c) a b hb) (stepC_dvd l _)
      · exact ih _ c b h hb
  have inR : ∀ (l : List D) (a : Int) (e c b : D), e ∈ l → c ∈ items e → b ∈ items c → botD b ∣ l.foldl stepR a := fun l => by
    induction l with
    | nil => intro a e c b h; cases h
    | cons d l ih =>
      intro a e c b h hc hb
      rcases List.mem_cons.mp h with rfl | h
      · exact Int.dvd_trans (inC (items e) a c b hc hb) (stepR_dvd l _)
      · exact ih _ e c b h hc hb
  exact fun e he c hc b hb => inR xs 1 e c b he hc hb
/-- judged, and no int within is great -/
structure Js (K : PySem.W.Frag) (x : D) : Prop where
  j : Jd K x
  s : x.small = true
theorem Js.ty {K : PySem.W.Frag} {x : D} (h : Js K x) : Jd1 K x := jd_ty h.j
theorem Js.mem {K : PySem.W.Frag} {xs : List D} (h : Js K (.tup xs)) {x : D} (hx : x ∈ xs) : Js K x := ⟨by
    have := h.j
    simp only [Jd] at this
    exact jd_mem this hx, by
    have := h.s
    simp only [D.small] at this
    exact smalls_mem this hx⟩
theorem smalls_of {xs : List D} (h : ∀ x ∈ xs, x.small = true) : D.smalls xs = true := by
  induction xs with
  | nil => simp only [D.smalls]
  | cons y ys ih =>
    simp only [D.smalls, Bool.and_eq_true]
    exact ⟨h y List.mem_cons_self, ih fun x hx => h x (List.mem_cons_of_mem _ hx)⟩
theorem Js.tup {K : PySem.W.Frag} {xs : List D} (h : ∀ x ∈ xs, Js K x) : Js K (.tup xs) := ⟨by
    simp only [Jd]
    exact jdA_of fun x hx => (h x hx).j, by
    simp only [D.small]
    exact smalls_of fun x hx => (h x hx).s⟩
theorem Js.fr (K : PySem.W.Frag) {p : Fr} (h : Sz 8000 p) : Js K (fr p) := ⟨jd_fr K p, fr_small h⟩
/-- numbers for a grid, of some size -/
structure Nums (m k : Nat) (xs rows : List D) : Prop where
  s : Shp m xs rows
  n : NumS k rows
  p : (besD xs rows).all numP = true
theorem Nums.js {K : PySem.W.Frag} {m k : Nat} {xs rows : List D} (h : Nums m k xs rows) (hk : k ≤ 8000) : Js K (.tup rows) := .tup fun r hr => by
  obtain ⟨cs, rfl, _⟩ := h.s.r r hr
  refine .tup fun y hy => ?_
  obtain ⟨q, rfl, _, sq⟩ := h.n _ hr y hy
  exact .fr K (sq.mono hk)
theorem Nums.len {m k : Nat} {xs rows : List D} {n : Int} (g : Grd n m xs) (h : Nums m k xs rows) : (D.tup rows).len ≤ 1000 := by
  have := h.s.l
  have := g.l10
  show (rows.length : Int) ≤ 1000
  omega
theorem Nums.areN {m k : Nat} {xs rows : List D} (h : Nums m k xs rows) : areN m xs (.tup rows) = true := by
  unfold PD.areN
  rw [show (besD xs (items (.tup rows))).all numP = true from h.p, Bool.and_true]
  show (decide ((rows.length : Int) = xs.length) && rows.all fun r => decide (r.len = (m : Int))) = true
  rw [decide_eq_true (show (rows.length : Int) = xs.length by have := h.s.l; omega), Bool.true_and, List.all_eq_true]
  intro r hr
  obtain ⟨cs, rfl, hc⟩ := h.s.r r hr
  exact decide_eq_true (show (cs.length : Int) = m by omega)
theorem Nums.fine {m k : Nat} {xs rows : List D} (h : Nums m k xs rows) : (D.tup rows).fine = true := lays_fine (n := 3) (lays_tup fun r hr => by
  obtain ⟨cs, rfl, _⟩ := h.s.r r hr
  refine lays_tup fun y hy => ?_
  obtain ⟨q, rfl, _⟩ := h.n _ hr y hy
  rfl) (by decide)
/-- a number in other units: in lowest terms, of some size, of its sign -/
theorem inO_ok {n s : Int} {c : D} {q : Fr} {v : List Fr} {m k : Nat} (hc : isCl n c = true) (hl : (v.length : Int) = n) (s1 : 1 ≤ s) (s2 : s ≤ 12) (n3 : n ≤ 3) (iq : IsF q) (sq : Sz k q) (hv : Rt v m k) :
    IsF (inO v s c q) ∧ Sz (k + (1 + 3 * (m * 72 + 1))) (inO v s c q) ∧ (0 < (inO v s c q).1 ↔ 0 < q.1) ∧ (q.1 = 0 → (inO v s c q).1 = 0) := by
  rcases cl_of hc with rfl | ⟨u, rfl, hu1, hu⟩
  · exact ⟨iq, sq.mono (Nat.le_add_right _ _), Iff.rfl, fun z => z⟩
  · rw [inO_un]
    have pos : PosL (u.zip v) := fun x hx => by
      obtain ⟨a, b⟩ := x
      obtain ⟨ha, hb⟩ := List.of_mem_zip hx
      exact ⟨(hv.p b hb).1, (hv.p b hb).2.1⟩
    have fo := facF_ok (s := s) (l := u.zip v) (acc := (1, 1)) pos one_isF (by decide)
    have fs : Sz (1 + 3 * (m * 72 + 1)) (facF s (1, 1) (u.zip v)) := by
      have h := facF_sz (s := s) (B := m * 72 + 1) (acc := (1, 1)) (n := 1) (l := u.zip v) (fun x hx => by
        obtain ⟨a, b⟩ := x
        obtain ⟨ha, hb⟩ := List.of_mem_zip hx
        exact powF_sz (hv.p b hb).2.2 (rt_exp (hu a ha) s1 s2)) ⟨by decide, by decide⟩
      refine h.mono ?_
      have l3 : (u.zip v).length ≤ 3 := by rw [List.length_zip]; omega
      have := Nat.mul_le_mul_right (m * 72 + 1) l3
      omega
    have q2 : 0 < q.2 := by have := iq.1; omega
    have f2 : 0 < (facF s (1, 1) (u.zip v)).2 := by have := fo.1.1; omega
    have cr := mulF_cross iq fo.1
    have w2 : 0 < (mulF q (facF s (1, 1) (u.zip v))).2 := by have := (mulF_isF iq fo.1).1; omega
    have den : 0 < q.2 * (facF s (1, 1) (u.zip v)).2 := Int.mul_pos q2 f2
    refine ⟨mulF_isF iq fo.1, mulF_sz sq fs, ⟨fun z => ?_, fun z => mulF_pos z q2 fo.2.1 f2⟩, fun z => ?_⟩
    · have a : 0 < q.1 * (facF s (1, 1) (u.zip v)).1 := by
        refine Int.pos_of_mul_pos_left (b := (mulF q (facF s (1, 1) (u.zip v))).2) ?_ w2
        rw [← cr]
        exact Int.mul_pos z den
      exact Int.pos_of_mul_pos_left a fo.2.1
    · rw [z, Int.zero_mul, Int.zero_mul] at cr
      rcases Int.mul_eq_zero.mp cr with y | y
      · exact y
      · omega
theorem resD_get {v : List Fr} {s : Int} {xs rows : List D} {i : Nat} {r : D} (h : (resD v s xs rows)[i]? = some r) : ∃ e r0, xs[i]? = some e ∧ rows[i]? = some r0 ∧ r = resR v s e r0 := by
  unfold resD at h
  rw [List.getElem?_zipWith] at h
  split at h
  · rename_i e r0 h1 h2
    cases h
    exact ⟨e, r0, h1, h2, rfl⟩
  · cases h
theorem resR_get {v : List Fr} {s : Int} {cs ds : List D} {j : Nat} {y : D} (h : (items (resR v s (.tup cs) (.tup ds)))[j]? = some y) : ∃ c z, cs[j]? = some c ∧ ds[j]? = some z ∧ y = fr (inO v s c (frOf z)) := by
  have h : (List.zipWith (fun c y => fr (inO v s c (frOf y))) cs ds)[j]? = some y := h
  rw [List.getElem?_zipWith] at h
  split at h
  · rename_i c z h1 h2
    cases h
    exact ⟨c, z, h1, h2, rfl⟩
  · cases h
/-- numbers in other units are numbers, and values if these were -/
theorem Nums.res {n s : Int} {m m' k : Nat} {xs rows : List D} {v : List Fr} (g : Grd n m xs) (h : Nums m k xs rows) (hl : (v.length : Int) = n) (s1 : 1 ≤ s) (s2 : s ≤ 12) (hv : Rt v m' k) :
    Nums m (k + (1 + 3 * (m' * 72 + 1))) xs (resD v s xs rows) ∧ (besD xs (resD v s xs rows)).all valP = (besD xs rows).all valP := by
  -- each cell's number
  have one : ∀ {i j : Nat} {cs ds : List D} {c z : D}, xs[i]? = some (.tup cs) → rows[i]? = some (.tup ds) → cs[j]? = some c → ds[j]? = some z → ∃ q : Fr, z = fr q ∧ isCl n c = true ∧ IsF q ∧ Sz k q ∧ numP (.tup [c, fr q]) = true := fun {i j cs ds c z} h1 h2 h3 h4 => by
    obtain ⟨q, rfl, iq, sq⟩ := h.n _ (List.mem_of_getElem? h2) z (List.mem_of_getElem? h4)
    obtain ⟨cs', e, _, hc⟩ := g.at h1
    cases e
    exact ⟨q, rfl, hc c (List.mem_of_getElem? h3), iq, sq, List.all_eq_true.mp h.p _ (bes_mem h1 h2 h3 h4)⟩
  have len : (resD v s xs rows).length = xs.length := by
    unfold resD
    rw [List.length_zipWith, h.s.l, Nat.min_self]
  refine ⟨⟨⟨len, fun r hr => ?_⟩, fun r hr y hy => ?_, bes_all fun i j e r u y e1 e2 e3 e4 => ?_⟩, ?_⟩
  · obtain ⟨i, hi⟩ := List.mem_iff_getElem?.mp hr
    obtain ⟨e, r0, h1, h2, rfl⟩ := resD_get hi
    obtain ⟨cs, rfl, hc, _⟩ := g.at h1
    obtain ⟨ds, rfl, hd⟩ := h.s.at h2
    exact ⟨_, rfl, by rw [List.length_zipWith]; show min cs.length ds.length = m; omega⟩
  · obtain ⟨i, hi⟩ := List.mem_iff_getElem?.mp hr
    obtain ⟨e, r0, h1, h2, rfl⟩ := resD_get hi
    obtain ⟨cs, rfl, hc, _⟩ := g.at h1
    obtain ⟨ds, rfl, hd⟩ := h.s.at h2
    obtain ⟨j, hj⟩ := List.mem_iff_getElem?.mp hy
    obtain ⟨c, z, h3, h4, rfl⟩ := resR_get hj
    obtain ⟨q, rfl, ic, iq, sq, _⟩ := one h1 h2 h3 h4
    have ok := inO_ok ic hl s1 s2 g.n3 iq sq hv
    exact ⟨_, rfl, ok.1, ok.2.1⟩
  · obtain ⟨e', r0, h1, h2, rfl⟩ := resD_get e2
    rw [e1] at h1
    cases h1
    obtain ⟨cs, rfl, hc, _⟩ := g.at e1
    obtain ⟨ds, rfl, hd⟩ := h.s.at h2
    obtain ⟨c, z, h3, h4, rfl⟩ := resR_get e4
    have e3 : cs[j]? = some u := e3
    rw [h3] at e3
    cases e3
    obtain ⟨q, rfl, ic, iq, sq, np⟩ := one e1 h2 h3 h4
    have ok := inO_ok ic hl s1 s2 g.n3 iq sq hv
    have np : (isFr (fr q) && (!u.isNon || decide (q.1 = 0))) = true := np
    show (isFr (fr (inO v s u q)) && (!u.isNon || decide ((inO v s u q).1 = 0))) = true
    rw [isFr_fr ok.1, Bool.true_and]
    rw [isFr_fr iq, Bool.true_and, Bool.or_eq_true, decide_eq_true_eq] at np
    rw [Bool.or_eq_true, decide_eq_true_eq]
    exact np.imp id ok.2.2.2
  · have same : ∀ {i j : Nat} {cs ds : List D} {c z : D}, xs[i]? = some (.tup cs) → rows[i]? = some (.tup ds) → cs[j]? = some c → ds[j]? = some z → valP (.tup [c, fr (inO v s c (frOf z))]) = valP (.tup [c, z]) := fun {i j cs ds c z} h1 h2 h3 h4 => by
      obtain ⟨q, rfl, ic, iq, sq, _⟩ := one h1 h2 h3 h4
      have ok := inO_ok ic hl s1 s2 g.n3 iq sq hv
      show (c.isNon || (isFr (fr (inO v s c q)) && decide (0 < (inO v s c q).1))) = (c.isNon || (isFr (fr q) && decide (0 < q.1)))
      rw [isFr_fr ok.1, isFr_fr iq, decide_eq_decide.mpr ok.2.2.1]
    rw [Bool.eq_iff_iff, List.all_eq_true, List.all_eq_true]
    refine ⟨fun a x hx => ?_, fun a x hx => ?_⟩
    · obtain ⟨i, j, e, r, u, y, h1, h2, h3, h4, rfl⟩ := mem_bes hx
      obtain ⟨cs, rfl, hc, _⟩ := g.at h1
      obtain ⟨ds, rfl, hd⟩ := h.s.at h2
      rw [← same h1 h2 h3 h4]
      refine a _ (bes_mem (i := i) (j := j) h1 (r := resR v s (.tup cs) (.tup ds)) ?_ h3 ?_)
      · unfold resD
        rw [List.getElem?_zipWith, h1, h2]
      · show (List.zipWith _ cs ds)[j]? = _
        have h3 : cs[j]? = some u := h3
        have h4 : ds[j]? = some y := h4
        rw [List.getElem?_zipWith, h3, h4]
    · obtain ⟨i, j, e, r, u, y, h1, h2, h3, h4, rfl⟩ := mem_bes hx
      obtain ⟨e', r0, h5, h6, rfl⟩ := resD_get h2
      rw [h1] at h5
      cases h5
      obtain ⟨cs, rfl, hc, _⟩ := g.at h1
      obtain ⟨ds, rfl, hd⟩ := h.s.at h6
      obtain ⟨c, z, h7, h8, rfl⟩ := resR_get h4
      have h3 : cs[j]? = some u := h3
      rw [h7] at h3
      cases h3
      rw [same h1 h6 h7 h8]
      exact a _ (bes_mem h1 h6 h7 h8)
theorem facQ_one {s : Int} : ∀ {u : List Fr} {w : List Fr}, (∀ r ∈ w, r = (1, 1)) → u.length = w.length → facQ s (u.zip w) = 1
  | [], _, _, _ => rfl
  | _ :: _, [], _, h => by simp at h
  | p :: u, r :: w, h, hl => by
    have e := h r List.mem_cons_self
    subst e
    show toQ (1, 1) ^ expI s p * facQ s (u.zip w) = 1
    have e : powF (1, 1) (expI s p) = (1, 1) := by
      unfold powF
      have : ∀ n : Nat, (1 : Int) ^ n = 1 := fun n => by
        induction n with
        | zero => rfl
        | succ n ih => rw [Int.pow_succ, ih, Int.one_mul]
      split <;> simp [this]
    rw [facQ_one (fun x hx => h x (List.mem_cons_of_mem _ hx)) (by simpa using hl), Rat.mul_one, ← toQ_pow (p := (1, 1)) (by decide) (by decide), e, one_Q]
/-- one change behind another is the change by the products -/
theorem inO_twice {n s : Int} {c : D} {q : Fr} {v w : List Fr} (hc : isCl n c = true) (hl : (v.length : Int) = n) (hl2 : (w.length : Int) = n) (iq : IsF q) (hv : ∀ r ∈ v, IsF r ∧ 0 < r.1) (hw : ∀ r ∈ w, IsF r ∧ 0 < r.1) :
    inO w s c (inO v s c q) = inO (List.zipWith mulF v w) s c q := by
  rcases cl_of hc with rfl | ⟨u, rfl, hu1, hu⟩
  · rfl
  · rw [inO_un, inO_un, inO_un]
    have pos : ∀ {l : List Fr}, (∀ r ∈ l, IsF r ∧ 0 < r.1) → PosL (u.zip l) := fun hl x hx => by
      obtain ⟨a, b⟩ := x
      exact hl b (List.of_mem_zip hx).2
    have hb : ∀ r ∈ List.zipWith mulF v w, IsF r ∧ 0 < r.1 := fun r hr => by
      obtain ⟨i, hi⟩ := List.mem_iff_getElem?.mp hr
      rw [List.getElem?_zipWith] at hi
      split at hi
      · rename_i a b h1 h2
        cases hi
        have a1 := hv a (List.mem_of_getElem? h1)
        have b1 := hw b (List.mem_of_getElem? h2)
        exact ⟨mulF_isF a1.1 b1.1, mulF_pos a1.2 (by have := a1.1.1; omega) b1.2 (by have := b1.1.1; omega)⟩
      · cases hi
    have f1 := facF_ok (s := s) (l := u.zip v) (acc := (1, 1)) (pos hv) one_isF (by decide)
    have f2 := facF_ok (s := s) (l := u.zip w) (acc := (1, 1)) (pos hw) one_isF (by decide)
    have f3 := facF_ok (s := s) (l := u.zip (List.zipWith mulF v w)) (acc := (1, 1)) (pos hb) one_isF (by decide)
    have q2 : 0 < q.2 := by have := iq.1; omega
    have m1 := mulF_isF iq f1.1
    refine toQ_inj (mulF_isF m1 f2.1) (mulF_isF iq f3.1) ?_
    rw [toQ_mul (by have := m1.1; omega) (by have := f2.1.1; omega), toQ_mul q2 (by have := f1.1.1; omega), toQ_mul q2 (by have := f3.1.1; omega), f1.2.2, f2.2.2, f3.2.2, one_Q, facQ_roots (by omega) (by omega) hv hw]
    grind
def swF (p : Fr) : Fr := (p.2, p.1)
theorem swF_ok {p : Fr} (h : IsF p ∧ 0 < p.1) : IsF (swF p) ∧ 0 < (swF p).1 := ⟨⟨h.2, by
  have := h.1.2
  unfold gcdI at this ⊢
  show Nat.gcd p.2.natAbs p.1.natAbs = 1
  rw [Nat.gcd_comm]
  exact this⟩, h.1.1⟩
theorem mul_sw {p : Fr} (h : IsF p ∧ 0 < p.1) : mulF p (swF p) = (1, 1) := by
  have h1 := h.1.1
  exact lowF_eq (Int.mul_pos (by omega) h.2) one_isF (by show 1 * (p.2 * p.1) = p.1 * p.2 * 1; rw [Int.one_mul, Int.mul_one, Int.mul_comm])
/-- a change turned leads back -/
theorem inO_back {n s : Int} {c : D} {q : Fr} {v : List Fr} (hc : isCl n c = true) (hl : (v.length : Int) = n) (iq : IsF q) (hv : ∀ r ∈ v, IsF r ∧ 0 < r.1) : inO (v.map swF) s c (inO v s c q) = q := by
  rw [inO_twice hc hl (by rw [List.length_map]; exact hl) iq hv fun r hr => by
    obtain ⟨p, hp, rfl⟩ := List.mem_map.mp hr
    exact swF_ok (hv p hp)]
  rcases cl_of hc with rfl | ⟨u, rfl, hu1, hu⟩
  · rfl
  · rw [inO_un]
    have ones : ∀ r ∈ List.zipWith mulF v (v.map swF), r = (1, 1) := fun r hr => by
      obtain ⟨i, hi⟩ := List.mem_iff_getElem?.mp hr
      rw [List.getElem?_zipWith, List.getElem?_map] at hi
      cases hz : v[i]? with
      | none => rw [hz] at hi; cases hi
      | some p =>
        rw [hz] at hi
        cases hi
        exact mul_sw (hv p (List.mem_of_getElem? hz))
    have pos : PosL (u.zip (List.zipWith mulF v (v.map swF))) := fun x hx => by
      obtain ⟨a, b⟩ := x
      rw [ones b (List.of_mem_zip hx).2]
      exact ⟨one_isF, show (0 : Int) < 1 by decide⟩
    have f := facF_ok (s := s) (acc := (1, 1)) pos one_isF (by decide)
    have e : facF s (1, 1) (u.zip (List.zipWith mulF v (v.map swF))) = (1, 1) := toQ_inj f.1 one_isF (by rw [f.2.2, one_Q, facQ_one ones (by rw [List.length_zipWith, List.length_map, Nat.min_self]; omega), Rat.mul_one])
    rw [e, mulF_one iq]
/-! ### which list stands at a place -/
def Has (ω : Om) (p : Addr) (es : List D) : Prop := (p, es) ∈ ω ∧ ∀ ds, (p, ds) ∈ ω → ds = es
theorem Has.cons {ω : Om} {p q : Addr} {es ds : List D} (h : Has ω p es) (n : p ≠ q) : Has ((q, ds) :: ω) p es := ⟨List.mem_cons_of_mem _ h.1, fun x hx => by
  rcases List.mem_cons.mp hx with z | z
  · cases z
    exact absurd rfl n
  · exact h.2 x z⟩
theorem Has.new {ω : Om} {q : Addr} {ds : List D} (n : ∀ x ∈ ω, x.1 ≠ q) : Has ((q, ds) :: ω) q ds := ⟨List.mem_cons_self, fun x hx => by
  rcases List.mem_cons.mp hx with z | z
  · cases z
    rfl
  · exact absurd rfl (n _ z)⟩
theorem Has.ne {ω : Om} {p q : Addr} {es : List D} (h : Has ω p es) (n : ∀ x ∈ ω, x.1 ≠ q) : p ≠ q := n _ h.1
theorem Has.put {ω : Om} {p : Addr} {es : List D} {f : List D → List D} (h : Has ω p es) : Has (putO ω p f) p (f es) := ⟨List.mem_map.mpr ⟨(p, es), h.1, by rw [if_pos rfl]⟩, fun x hx => by
  obtain ⟨ds, h1, rfl⟩ := mem_putO hx
  rw [if_pos rfl, h.2 ds h1]⟩
theorem Has.off {ω : Om} {p q : Addr} {es : List D} {f : List D → List D} (h : Has ω p es) (n : p ≠ q) : Has (putO ω q f) p es := ⟨List.mem_map.mpr ⟨(p, es), h.1, by rw [if_neg n]⟩, fun x hx => by
  obtain ⟨ds, h1, rfl⟩ := mem_putO hx
  rw [if_neg n]
  exact h.2 ds h1⟩
/-- xs.append(e), e reading lists of one's own -/
theorem so_appL {W : Wd} {Wx : WX} {X : XV → DS → Prop} {ω : Om} {δ : DS} {N : Om → DS → Prop} {R : D → Prop} {B C : Om → DS → Prop} {te : TE} {i : Nat} {a : Addr} {ds : List D} (hi : δ[i]? = some (some (.obj a))) (hm : Has ω a ds) (hu : ds.length < 100000)
    (h : EvL W te ω δ fun d => d.nref = true ∧ N (putO ω a fun es => es ++ [d]) δ) : SO W Wx (tDrop (tBM W.K "list" rAppend (tVar i) (tCons te tNil))) ω δ N R B C X := fun M0 H0 M1 L1 M σ H E d0 p ow e o => by
  obtain ⟨v, s1, r1⟩ := p.sl.get i _ hi
  cases r1
  obtain ⟨hM, n0, ns, nb, vs, ha, rr⟩ := ow a ds hm.1
  obtain ⟨p2, l2⟩ := own_lend p ow
  refine ⟨_, s1, .inl ⟨rfl, _, SqL.of ha⟩, h _ σ H p2 l2 _ fun u d H1 g1 k1 r1 h1 => ?_⟩
  have ha1 := k1 a _ ns ha
  refine ⟨a, vs, u, rfl, rfl, ha1, ?_, ?_⟩
  · rw [rr.length]
    exact Nat.lt_of_lt_of_le hu (by decide)
  · have one : ∀ es, (a, es) ∈ ω → Reps W M H1 (vs ++ [u]) (es ++ [d]) := fun es m => by
      obtain ⟨_, _, _, _, vs', q1, q2⟩ := ow a es m
      rw [ha] at q1
      cases q1
      exact (q2.keep p.wf k1).append (.cons (r1.nref h1.1) .nil)
    obtain ⟨x1, x2, x3⟩ := own_upd (f := fun es => es ++ [d]) (p.next g1 k1) (ow.keep p.wf k1) (e.next p.wf k1) d0 hm.1 one
    exact o.nx M _ _ _ _ x1 x2 x3 h1.2
theorem resR_nref (v : List Fr) (s : Int) (e r : D) : (resR v s e r).nref = true := nref_tup fun y hy => by
  obtain ⟨j, hj⟩ := List.mem_iff_getElem?.mp hy
  rw [List.getElem?_zipWith] at hj
  split at hj
  · cases hj
    exact nref_fr _
  · cases hj
theorem rc_min {W : Wd} {P : D → Prop} {i j : Int} (h : P (.int (if j < i then j else i))) : RCD W (fun xs H Q => ∃ i j, xs = [V.int i, V.int j] ∧ Q (.int (if j < i then j else i)) H) [.int i, .int j] P := fun M H vs w r Q q => by
  cases r with
  | cons r1 r2 =>
    cases r2 with
    | cons r2 r3 =>
      cases r3
      cases r1
      cases r2
      exact ⟨i, j, rfl, q _ _ H w.g (Keep.refl H) (.int _) h⟩
/-- the first rows, filled -/
structure FilL (k : Nat) (cs line : List D) : Prop where
  l : line.length = k
  c : ∀ (j : Nat) (u y : D), cs[j]? = some u → line[j]? = some y → ∃ q : Fr, y = fr q ∧ IsF q ∧ Sz 134 q ∧ numP (.tup [u, y]) = true
structure FilR (k : Nat) (xs acc : List D) : Prop where
  l : acc.length = k
  r : ∀ (i : Nat) (e r : D), xs[i]? = some e → acc[i]? = some r → ∃ ds, r = .tup ds ∧ FilL (items e).length (items e) ds
theorem FilL.nref {k : Nat} {cs line : List D} (h : FilL k cs line) (hl : k ≤ cs.length) : (D.tup line).nref = true := nref_tup fun y hy => by
  obtain ⟨j, hj⟩ := List.mem_iff_getElem?.mp hy
  have := (List.getElem?_eq_some_iff.mp hj).1
  have := h.l
  obtain ⟨q, rfl, _⟩ := h.c j _ y (List.getElem?_eq_getElem (by omega)) hj
  exact nref_fr q
theorem FilL.snoc {k : Nat} {cs line : List D} {u : D} {q : Fr} (h : FilL k cs line) (hu : cs[k]? = some u) (iq : IsF q) (sq : Sz 134 q) (np : numP (.tup [u, fr q]) = true) : FilL (k + 1) cs (line ++ [fr q]) := ⟨by rw [List.length_append, h.l]; rfl, fun j u' y e1 e2 => by
  by_cases z : j < line.length
  · rw [List.getElem?_append_left z] at e2
    exact h.c j u' y e1 e2
  · have l := (List.getElem?_eq_some_iff.mp e2).1
    rw [List.length_append] at l
    have one : [fr q].length = 1 := rfl
    have hl := h.l
    have ej : j = k := by omega
    subst ej
    rw [List.getElem?_append_right (by omega), hl, Nat.sub_self] at e2
    cases e2
    rw [hu] at e1
    cases e1
    exact ⟨q, rfl, iq, sq, np⟩⟩
theorem FilR.snoc {k : Nat} {xs acc ds : List D} {e : D} (h : FilR k xs acc) (he : xs[k]? = some e) (hd : FilL (items e).length (items e) ds) : FilR (k + 1) xs (acc ++ [.tup ds]) := ⟨by rw [List.length_append, h.l]; rfl, fun j e' r e1 e2 => by
  by_cases z : j < acc.length
  · rw [List.getElem?_append_left z] at e2
    exact h.r j e' r e1 e2
  · have l := (List.getElem?_eq_some_iff.mp e2).1
    rw [List.length_append] at l
    have one : [D.tup ds].length = 1 := rfl
    have hl := h.l
    have ej : j = k := by omega
    subst ej
    rw [List.getElem?_append_right (by omega), hl, Nat.sub_self] at e2
    cases e2
    rw [he] at e1
    cases e1
    exact ⟨ds, rfl, hd⟩⟩
theorem FilR.nums {n : Int} {m : Nat} {xs acc : List D} (g : Grd n m xs) (h : FilR xs.length xs acc) : Nums m 134 xs acc := by
  have at' : ∀ {i : Nat} {r : D}, acc[i]? = some r → ∃ cs ds, xs[i]? = some (.tup cs) ∧ r = .tup ds ∧ cs.length = m ∧ FilL cs.length cs ds := fun {i r} hi => by
    have l := (List.getElem?_eq_some_iff.mp hi).1
    have := h.l
    obtain ⟨cs, e, hc, _⟩ := g.at' (i := i) (by omega)
    obtain ⟨ds, rfl, hd⟩ := h.r i _ r e hi
    exact ⟨cs, ds, e, rfl, hc, hd⟩
  refine ⟨⟨h.l, fun r hr => ?_⟩, fun r hr y hy => ?_, bes_all fun i j e r u y e1 e2 e3 e4 => ?_⟩
  · obtain ⟨i, hi⟩ := List.mem_iff_getElem?.mp hr
    obtain ⟨cs, ds, _, rfl, hc, hd⟩ := at' hi
    exact ⟨ds, rfl, by rw [hd.l]; exact hc⟩
  · obtain ⟨i, hi⟩ := List.mem_iff_getElem?.mp hr
    obtain ⟨cs, ds, _, rfl, hc, hd⟩ := at' hi
    obtain ⟨j, hj⟩ := List.mem_iff_getElem?.mp hy
    have hj : ds[j]? = some y := hj
    have := (List.getElem?_eq_some_iff.mp hj).1
    have := hd.l
    obtain ⟨q, rfl, iq, sq, _⟩ := hd.c j _ y (List.getElem?_eq_getElem (by omega)) hj
    exact ⟨q, rfl, iq, sq⟩
  · obtain ⟨cs, ds, h1, rfl, hc, hd⟩ := at' e2
    rw [e1] at h1
    cases h1
    obtain ⟨q, rfl, _, _, np⟩ := hd.c j u y e3 e4
    exact np
end PD
namespace PD
open PySem PySem.Spec PyProof.Rows L2
open PDX PDI PDT
theorem hr_u1 {k : Nat} {A : Around} (hr : Room k A) : A.units + 1 < cLine := by
  have := hr_u hr
  omega
section
variable {X : Cx} {K : PySem.W.Frag} {w : World}
theorem ix_kdK (h : X.K = K) (hw : X.w = w) : IxR X (rIxD K w) := by subst h; subst hw; exact ix_kdict
/-- at p a dict of the module, its keys texts -/
def KDic (K : PySem.W.Frag) (w : World) (p : Addr) : Prop := (∃ es n, K.lookup p = some ⟨.type "dict", none, .dict es n, #[]⟩ ∧ PySem.W.KeysLit w.params es.toList) ∧ (p == sysModules) = false
def tKGet (K : PySem.W.Frag) (w : World) (td ty : TE) : TE := fun σ H Q => td σ H fun x H1 => ∃ p, x = .ref p ∧ KDic K w p ∧ ty σ H1 fun y H2 => ∃ (z : Str) (r : Option Value) (v : V), y = .str z ∧ PySem.W.nsIn K p z = some r ∧ RelV v (r.getD .none) ∧ Q v H2
/-- what a dict of the module is: asked for a text's place -/
theorem kget_run {A : Around} {p : Addr} {z : Str} {u : Value} {r : Option Value} {es : Array DictEntry} {n : Nat} {pins : List (Addr × Obj)} {σ : L2.St} {H : Hp} {s : Shared} {E : Value → Shared → Prop} {Q : Value → Shared → Prop} (I : L2.Inv X pins σ H s)
    (hl : X.K.lookup p = some ⟨.type "dict", none, .dict es n, #[]⟩) (hk : PySem.W.KeysLit X.w.params es.toList) (lo : (p == sysModules) = false) (e : PySem.W.nsIn X.K p z = some r) (ry : RelV (.str z) u)
    (h : ∀ s', L2.Inv X pins σ H s' → Q (r.getD .none) s') : wpAny (model X.prog X.w) A (call (.builtin "dict.get") [.ref p, u]) Q E s := by
  obtain ⟨t, rfl⟩ := (show ∃ t, u = Value.str z t from ry)
  have hm := PySem.W.mapOf_K (prog := X.prog) (w := X.w) I.kIn hl hk
  have hf := PySem.W.find_K hl e
  refine call_meetsIn PySem.F.slot_dict_get hm.typeIs PySem.F.entry_dict_get (PySem.F.args_dict_get_2 _ _) (meets_dict_get (strKind X.prog X.w) p (strKind_is X.prog X.w z t) lo) ⟨_, hm, ?_⟩
  rw [hf]
  exact h _ (I.tok _)
theorem pe_kgetK {o e : Expr} {apos cpos : Pos} {td ty : TE} (h : X.K = K) (hw : X.w = w) (ho : PE X o td) (he : PE X e ty) (m : M1 X o "get" apos e cpos) : PE X (.Call (.Attribute o "get" apos) [e] [] cpos) (tKGet K w td ty) := by
  subst h
  subst hw
  refine ⟨fun pins s σ H Q I wish => ?_⟩
  refine wpAny_Call_method m.base m.few m.line PySem.F.plainAttrs_dict PySem.F.slot_dict_get PySem.F.type_dict_get ?_
  -- the dict's place is known before its key is looked at: it stands in the written part
  refine thn (ho.run pins s σ H _ I wish) fun u s1 ⟨x, H1, I1, rx, p, ex, kd, q1⟩ => ?_
  subst ex
  obtain rfl : u = Value.ref p := rx
  obtain ⟨⟨es, n, hl, hk⟩, lo⟩ := kd
  refine ⟨(PySem.W.mapOf_K (prog := X.prog) (w := X.w) I1.kIn hl hk).typeIs, fun b e => ⟨_, I1.kIn p _ hl |> fun z => by cases e; exact z, rfl⟩, ?_⟩
  rw [m.trees]
  refine Calls.callWith_builtin rfl (Calls.evalArgs_plain (Calls.spliced_cons (thn (he.run pins s1 σ H1 _ I1 q1) fun iv s2 got => Calls.spliced_nil ?_)))
  obtain ⟨y, H2, I2, ry, z, r, v, ey, en, rv, q2⟩ := got
  subst ey
  exact kget_run I2 hl hk lo en ry fun s3 I3 => ⟨v, H2, I3, rv, q2⟩
theorem call_maxTK (h : X.K = K) (hc : X.calm = true) (hu : X.A.units + 64 < cLine) : CallR X (.builtin "max") (fun xs H Q => ∃ (a : Addr) (n : Int) (ns : List Int), xs = [.ref a] ∧ SqT K H a ((n :: ns).map V.int) ∧ Q (.int (ns.foldl max n)) H) := by
  subst h
  intro pins s σ H vs us Q I r wish
  obtain ⟨a, n, ns, rfl, hs, q⟩ := wish
  obtain ⟨its, rv, it, _⟩ := I.tuple hs
  rw [Vals.ref1 r]
  have dp : ∀ l : List Int, DpAll X.K H (l.map V.int) (l.map PyData.int) := fun l => by
    induction l with
    | nil => exact .nil
    | cons i l ih => exact .cons (.int i) ih
  obtain ⟨as, rd⟩ := Dp.readsAll I _ _ _ (dp (n :: ns)) rv
  have flat : ∀ l : List Int, PyData.depthAll (l.map PyData.int) = 0 := fun l => by
    induction l with
    | nil => rfl
    | cons i l ih => rw [List.map_cons, PyData.depthAll, ih]; rfl
  refine PySem.W.max_tuple_data (x := .int n) (xs := ns.map PyData.int) (I.ok.hd hc) it rd ⟨fun x hx y hy => ?_, fun x hx z => ?_⟩ ?_ fun i v h' tk bs hv rv' hk => ?_
  · obtain ⟨i, _, rfl⟩ := List.mem_map.mp (show x ∈ (n :: ns).map PyData.int from hx)
    obtain ⟨j, _, rfl⟩ := List.mem_map.mp (show y ∈ (n :: ns).map PyData.int from hy)
    rfl
  · obtain ⟨i, _, rfl⟩ := List.mem_map.mp (show x ∈ (n :: ns).map PyData.int from hx)
    cases z
  · have := flat (n :: ns)
    rw [show (PyData.int n :: ns.map PyData.int) = (n :: ns).map PyData.int from rfl, this]
    omega
  · rw [PySem.W.maxD_ints] at rv'
    cases rv'
    exact ⟨.int _, H, I.kept hk, ⟨_, rfl⟩, q⟩
end
/-! ### the same by data -/
/-- entries of texts and whole numbers -/
def KEs (P : Params) : List DictEntry → List (Str × Int) → Prop
  | [], [] => True
  | e :: r, (x, i) :: q => (∃ t, e.key = .str x t) ∧ e.hash = PyData.keyHash P x ∧ (∃ t, e.val = .int i t) ∧ KEs P r q
  | _, _ => False
structure KDi (K : PySem.W.Frag) (w : World) (p : Addr) (kvs : List (Str × Int)) : Prop where
  ex : ∃ es n, K.lookup p = some ⟨.type "dict", none, .dict es n, #[]⟩ ∧ KEs w.params es.toList kvs
  lo : (p == sysModules) = false
theorem kes_lit {P : Params} : ∀ {l : List DictEntry} {kvs : List (Str × Int)}, KEs P l kvs → PySem.W.KeysLit P l
  | [], [], _ => trivial
  | _ :: _, (_, _) :: _, ⟨⟨t, e⟩, h, _, r⟩ => ⟨⟨_, t, e, h⟩, kes_lit r⟩
  | [], _ :: _, h => h.elim
  | _ :: _, [], h => h.elim
def optI : Option Int → D
  | none => .non
  | some i => .int i
theorem kes_find {P : Params} (z : Str) : ∀ {l : List DictEntry} {kvs : List (Str × Int)}, KEs P l kvs → (l.find? (·.key.isStr z) = none ∧ kvs.lookup z = none) ∨ ∃ e i t, l.find? (·.key.isStr z) = some e ∧ e.val = .int i t ∧ kvs.lookup z = some i
  | [], [], _ => .inl ⟨rfl, rfl⟩
  | e :: l, (x, i) :: q, ⟨⟨t, ek⟩, _, ⟨t2, ev⟩, r⟩ => by
    by_cases hz : z = x
    · subst hz
      refine .inr ⟨e, i, t2, ?_, ev, ?_⟩
      · rw [List.find?_cons, ek]
        have : (Value.str z t).isStr z = true := by simp [Value.isStr]
        rw [this]
      · simp [List.lookup]
    · have h1 : e.key.isStr z = false := by
        rw [ek]
        simpa [Value.isStr] using fun c => hz c.symm
      have h2 : (z == x) = false := by simpa using hz
      rcases kes_find z r with ⟨a, b⟩ | ⟨e', i', t', a, b, c⟩
      · exact .inl ⟨by rw [List.find?_cons, h1]; exact a, by simp only [List.lookup, h2]; exact b⟩
      · exact .inr ⟨e', i', t', by rw [List.find?_cons, h1]; exact a, b, by simp only [List.lookup, h2]; exact c⟩
  | [], _ :: _, h => h.elim
  | _ :: _, [], h => h.elim
theorem kes_plain {P : Params} : ∀ {l : List DictEntry} {kvs : List (Str × Int)}, KEs P l kvs → l.any (·.refKey) = false
  | [], [], _ => rfl
  | e :: l, (_, _) :: _, ⟨⟨t, ek⟩, _, _, r⟩ => by
    rw [List.any_cons, kes_plain r]
    have : e.refKey = false := by
      unfold DictEntry.refKey
      rw [ek]
    rw [this]
    rfl
  | [], _ :: _, h => h.elim
  | _ :: _, [], h => h.elim
section
variable {K : PySem.W.Frag} {w : World} {p : Addr} {kvs : List (Str × Int)}
theorem KDi.dic (h : KDi K w p kvs) : KDic K w p := by
  obtain ⟨⟨es, n, hl, he⟩, lo⟩ := h
  exact ⟨⟨es, n, hl, kes_lit he⟩, lo⟩
theorem KDi.ns (h : KDi K w p kvs) (z : Str) : (PySem.W.nsIn K p z = some none ∧ kvs.lookup z = none) ∨ ∃ i t, PySem.W.nsIn K p z = some (some (.int i t)) ∧ kvs.lookup z = some i := by
  obtain ⟨⟨es, n, hl, he⟩, lo⟩ := h
  unfold PySem.W.nsIn
  rw [hl]
  dsimp only
  rcases kes_find z he with ⟨a, b⟩ | ⟨e, i, t, a, b, c⟩
  · left
    rw [a, kes_plain he]
    exact ⟨rfl, b⟩
  · right
    rw [a]
    exact ⟨i, t, by show some (some e.val) = _; rw [b], c⟩
theorem KDi.kdct (h : KDi K w p kvs) {z : Str} {i : Int} (e : kvs.lookup z = some i) : KDct K w p z (.int i) := by
  rcases h.ns z with ⟨_, b⟩ | ⟨j, t, a, b⟩
  · rw [e] at b
    cases b
  · obtain ⟨⟨es, n, hl, he⟩, lo⟩ := h
    rw [e] at b
    cases b
    exact ⟨es, n, _, hl, kes_lit he, a, ⟨t, rfl⟩⟩
end
section
variable {W : Wd} {w : World} {δ : DS} {P : D → Prop} {td ty : TE} {p : Addr} {kvs : List (Str × Int)}
theorem rd_kix {z : Str} {i : Int} (h : KDi W.K w p kvs) (e : kvs.lookup z = some i) (hP : P (.int i)) : RD W (rIxD W.K w) (.obj p) (.str z) P := fun M H v u wf r1 r2 Q q => by
  cases r1
  cases r2
  exact ⟨p, z, _, rfl, rfl, h.kdct e, q _ _ H wf.g (Keep.refl H) (.int i) hP⟩
theorem ev_kget (h : KDi W.K w p kvs) (hd : EvD W td δ fun x => x = .obj p ∧ EvD W ty δ fun y => ∃ z, y = .str z ∧ P (optI (kvs.lookup z))) : EvD W (tKGet W.K w td ty) δ P := fun M σ H pr Q q =>
  hd M σ H pr _ fun v d H1 g1 k1 r1 h1 => by
    obtain ⟨rfl, h2⟩ := h1
    cases r1
    refine ⟨p, rfl, h.dic, h2 M σ H1 (pr.next g1 k1) _ fun v2 d2 H2 g2 k2 r2 h3 => ?_⟩
    obtain ⟨z, rfl, hP⟩ := h3
    cases r2
    rcases h.ns z with ⟨a, b⟩ | ⟨i, t, a, b⟩
    · rw [b] at hP
      exact ⟨z, none, .non, rfl, a, rfl, q _ _ H2 g2 (k1.trans k2) .non hP⟩
    · rw [b] at hP
      exact ⟨z, _, .int i, rfl, a, ⟨t, rfl⟩, q _ _ H2 g2 (k1.trans k2) (.int i) hP⟩
/-! ### a def's own dict -/
def dicGet : List Key → List D → Key → Option D
  | k :: ks, d :: ds, x => if k = x then some d else dicGet ks ds x
  | _, _, _ => none
theorem dic_val {M : Addr → Prop} {H : Hp} {x : Key} : ∀ {kvs : List (Key × V)} {ds : List D}, Reps W M H (kvs.map (·.2)) ds → (valV kvs x = none ∧ dicGet (kvs.map (·.1)) ds x = none) ∨ ∃ v d, valV kvs x = some v ∧ dicGet (kvs.map (·.1)) ds x = some d ∧ Rep W M H v d
  | [], [], _ => .inl ⟨rfl, rfl⟩
  | (k, v) :: kvs, _, r => by
    cases r with
    | cons r1 r2 =>
      rename_i d ds
      by_cases e : k = x
      · exact .inr ⟨v, d, valV_pos e, by simp only [List.map_cons, dicGet, if_pos e], r1⟩
      · rcases dic_val (x := x) r2 with ⟨a, b⟩ | ⟨v', d', a, b, c⟩
        · exact .inl ⟨by rw [valV_neg e]; exact a, by simp only [List.map_cons, dicGet, if_neg e]; exact b⟩
        · exact .inr ⟨v', d', by rw [valV_neg e]; exact a, by simp only [List.map_cons, dicGet, if_neg e]; exact b, c⟩
def keyD : Key → D
  | .inl i => .int i
  | .inr x => .str x
theorem keyD_rep {M : Addr → Prop} {H : Hp} {v : V} {k : Key} (r : Rep W M H v (keyD k)) : v = kV k := by
  cases k <;> (cases r; rfl)
theorem ev_dget {td ty : TE} (h : EvD W td δ fun x => ∃ ks ds, x = .dic ks ds ∧ EvD W ty δ fun y => ∃ k d, y = keyD k ∧ dicGet ks ds k = some d ∧ P d) : EvD W (tDGet td ty) δ P := fun M σ H pr Q q =>
  h M σ H pr _ fun v x H1 g1 k1 r1 h1 => by
    obtain ⟨ks, ds, rfl, h2⟩ := h1
    refine h2 M σ H1 (pr.next g1 k1) _ fun u y H2 g2 k2 r2 h3 => ?_
    obtain ⟨k, d, rfl, e, hP⟩ := h3
    have r1' := r1.keep (pr.wf.next g1 k1) k2
    have ek := keyD_rep r2
    subst ek
    cases r1' with
    | dic n ha em hr =>
      subst em
      rcases dic_val (x := k) hr with ⟨_, b⟩ | ⟨v', d', a, b, c⟩
      · rw [e] at b
        cases b
      · rw [e] at b
        cases b
        exact ⟨_, v', rfl, by rw [← a]; exact DGet.k ha, q _ _ H2 g2 (k1.trans k2) c hP⟩
theorem ev_dnotin {td ty : TE} (h : EvD W ty δ fun y => ∃ k, y = keyD k ∧ EvD W td δ fun x => ∃ ks ds, x = .dic ks ds ∧ P (.bl (!(dicGet ks ds k).isSome))) : EvD W (tDNotIn ty td) δ P := fun M σ H pr Q q =>
  h M σ H pr _ fun u y H1 g1 k1 r1 h1 => by
    obtain ⟨k, rfl, h2⟩ := h1
    refine h2 M σ H1 (pr.next g1 k1) _ fun v x H2 g2 k2 r2 h3 => ?_
    obtain ⟨ks, ds, rfl, hP⟩ := h3
    have ek := keyD_rep r1
    subst ek
    cases r2 with
    | dic n ha em hr =>
      subst em
      refine ⟨_, _, rfl, DGet.k ha, ?_⟩
      rcases dic_val (x := k) hr with ⟨a, b⟩ | ⟨v', d', a, b, c⟩
      · rw [a]
        rw [b] at hP
        exact q _ _ H2 g2 (k1.trans k2) (.bl _) hP
      · rw [a]
        rw [b] at hP
        exact q _ _ H2 g2 (k1.trans k2) (.bl _) hP
theorem et_b {t : TE} {P : Bool → Prop} (h : EvD W t δ fun d => ∃ b, d = .bl b ∧ P b) : EvT W (tB t) δ P := fun M σ H pr Q q =>
  h M σ H pr _ fun v d H1 g1 k1 r1 h1 => by
    obtain ⟨b, rfl, hP⟩ := h1
    cases r1
    exact ⟨b, rfl, q b H1 g1 k1 hP⟩
/-- a display of texts and whole numbers -/
theorem ev_dispS {kvs : List (Str × Int)} (hl : kvs.length ≤ 15) (hm : mergeK [] (kvs.map fun q => ((Sum.inr q.1 : Key), V.int q.2)) = kvs.map fun q => ((Sum.inr q.1 : Key), V.int q.2))
    (h : P (.dic (kvs.map fun q => (Sum.inr q.1 : Key)) (kvs.map fun q => D.int q.2))) : EvD W (tDisp (kvs.map fun q => (tC (.str q.1), tC (.int q.2)))) δ P := fun M σ H pr Q q a ha => by
  have run : ∀ (l : List (Str × Int)) (H' : Hp) (R : List (V × V) → Hp → Prop), R (l.map fun q => (V.str q.1, V.int q.2)) H' → tPairs (l.map fun q => (tC (.str q.1), tC (.int q.2))) σ H' R := fun l => by
    induction l with
    | nil => exact fun H' R r => r
    | cons x l ih => exact fun H' R r => ih H' _ r
  refine run kvs _ _ ⟨upd_same, kvs.map fun q => ((Sum.inr q.1 : Key), V.int q.2), by rw [List.map_map]; rfl, by rw [List.length_map]; exact hl, ?_⟩
  rw [upd_upd, hm]
  obtain ⟨x1, x2, _⟩ := newU (kvs := kvs.map fun q => ((Sum.inr q.1 : Key), V.int q.2)) pr.wf ha
  have nums_ : ∀ l : List (Str × Int), Reps W M (upd H a (.dK (kvs.map fun q => ((Sum.inr q.1 : Key), V.int q.2)))) ((l.map fun q => ((Sum.inr q.1 : Key), V.int q.2)).map (·.2)) (l.map fun q => D.int q.2) := fun l => by
    induction l with
    | nil => exact .nil
    | cons x l ih => exact .cons (.int _) ih
  refine q _ _ _ x1 x2 (.dic (fun m => ?_) upd_same (by rw [List.map_map]; rfl) (nums_ kvs)) h
  obtain ⟨o, ho⟩ := pr.wf.dom a m
  rw [ha] at ho
  cases ho
/-- the greatest of a tuple of whole numbers -/
theorem rc_maxT {n : Int} {ns : List Int} (h : P (.int (ns.foldl max n))) : RCD W (fun xs H Q => ∃ (a : Addr) (n : Int) (ns : List Int), xs = [.ref a] ∧ SqT W.K H a ((n :: ns).map V.int) ∧ Q (.int (ns.foldl max n)) H) [.tup ((n :: ns).map D.int)] P := fun M H vs wf r Q q => by
  have nums_ : ∀ {l : List Int} {us : List V}, Reps W M H us (l.map D.int) → us = l.map V.int := fun {l} => by
    induction l with
    | nil => intro us r; cases r; rfl
    | cons i l ih =>
      intro us r
      cases r with
      | cons r1 r2 =>
        cases r1
        rw [ih r2]
        rfl
  cases r with
  | cons r1 r2 =>
    cases r2
    cases r1 with
    | tup hs hr =>
      have := nums_ (l := n :: ns) hr
      subst this
      exact ⟨_, n, ns, rfl, hs, q _ _ H wf.g (Keep.refl H) (.int _) h⟩
end
end PD
namespace PD
open PySem PySem.Spec PyProof.Rows L2
open PDX PDI PDT
def kindLen : List (Str × Int) := [("plus", 3), ("times", 3), ("turned", 2), ("beside", 3), ("above", 3), ("piece", 6), ("star", 2)]
abbrev Sh := Int × Int
def shD (p : Sh) : D := .tup [.int p.1, .int p.2]
def optSh : Option Sh → D
  | none => .non
  | some p => shD p
def twoD (k : Str) (one other : Sh) : Option Sh :=
  if k = "plus" then (if one = other then some one else none)
  else if k = "times" then (if one.2 = other.1 then some (one.1, other.2) else none)
  else if k = "beside" then (if one.1 = other.1 then some (one.1, one.2 + other.2) else none)
  else if one.2 = other.2 then some (one.1 + other.1, one.2) else none
def pieceD (i j r c : Int) (one : Sh) : Option Sh :=
  if min i j < 0 ∨ min r c < 1 then none else if one.1 < i + r ∨ one.2 < j + c then none else some (r, c)
def fitD (k : Str) (l : List Int) (one other : Sh) : Option Sh :=
  if k = "turned" then some (one.2, one.1)
  else if k = "star" then (if one.1 = one.2 then some one else none)
  else if k = "piece" then (match l with
    | [_, i, j, r, c] => pieceD i j r c one
    | _ => none)
  else twoD k one other
def small12 : Option Sh → Option Sh
  | none => none
  | some p => if 12 < max p.1 p.2 then none else some p
def intsOf : List D → Option (List Int)
  | [] => some []
  | x :: r => if x.isInt then (intsOf r).map (x.toI :: ·) else none
theorem intsOf_map (l : List Int) : intsOf (l.map D.int) = some l := by
  induction l with
  | nil => rfl
  | cons i l ih => simp only [List.map_cons, intsOf, D.isInt, if_true, ih, Option.map_some, D.toI]
theorem intsOf_some : ∀ {r : List D} {l : List Int}, intsOf r = some l → r = l.map D.int
  | [], l, h => by
    simp only [intsOf, Option.some.injEq] at h
    rw [← h]
    rfl
  | x :: r, l, h => by
    unfold intsOf at h
    split at h
    · rename_i hx
      obtain ⟨i, rfl⟩ := isInt_of hx
      cases e : intsOf r with
      | none => rw [e] at h; cases h
      | some q =>
        rw [e] at h
        cases h
        rw [intsOf_some e]
        rfl
    · cases h
theorem intsOf_all : ∀ (r : List D), r.all (·.isInt) = (intsOf r).isSome
  | [] => rfl
  | x :: r => by
    rw [List.all_cons, intsOf_all r]
    show _ = (if x.isInt then (intsOf r).map (x.toI :: ·) else none).isSome
    cases hx : x.isInt with
    | false => rfl
    | true => cases intsOf r <;> rfl
/-- a step's word and its numbers, if it has the form of one -/
def stepOf : D → Option (Str × List Int)
  | .tup (.str k :: r) => (match kindLen.lookup k, intsOf r with
    | some n, some l => if (l.length : Int) + 1 = n then some (k, l) else none
    | _, _ => none)
  | _ => none
def stD (k : Str) (l : List Int) : D := .tup (.str k :: l.map D.int)
theorem stepOf_some {x : D} {k : Str} {l : List Int} (h : stepOf x = some (k, l)) : x = stD k l ∧ kindLen.lookup k = some ((l.length : Int) + 1) := by
  unfold stepOf at h
  split at h
  · rename_i k' r
    split at h
    · rename_i n q e1 e2
      split at h
      · rename_i e3
        cases h
        exact ⟨by rw [intsOf_some e2]; rfl, by rw [e1, e3]⟩
      · cases h
    · cases h
  · cases h
theorem stepOf_stD {k : Str} {l : List Int} (h : kindLen.lookup k = some ((l.length : Int) + 1)) : stepOf (stD k l) = some (k, l) := by
  unfold stD stepOf
  simp only [h, intsOf_map, if_true]
def srcs (k : Str) (l : List Int) : List Int := if kindLen.lookup k = some 3 then l.take 2 else l.take 1
def okSrc (n : Int) (i : Int) : Bool := decide (0 ≤ i) && decide (i < n)
def shAt (shs : List Sh) (i : Int) : Sh := shs.getD i.toNat (0, 0)
def madeD (shs : List Sh) (x : D) : Option Sh := match stepOf x with
  | none => none
  | some (k, l) => if (srcs k l).all (okSrc shs.length) then small12 (fitD k l (shAt shs (l.getD 0 0)) (shAt shs (l.getD 1 0))) else none
/-- the kinds -/
theorem lookup_mem {n : Int} {k : Str} : ∀ {l : List (Str × Int)}, l.lookup k = some n → (k, n) ∈ l
  | [], h => by cases h
  | (x, i) :: l, h => by
    by_cases e : k = x
    · subst e
      have : ((k, i) :: l).lookup k = some i := by simp [List.lookup]
      rw [this] at h
      cases h
      exact List.mem_cons_self
    · have hx : (k == x) = false := by simpa using e
      simp only [List.lookup, hx] at h
      exact List.mem_cons_of_mem _ (lookup_mem h)
theorem kind_cases {k : Str} {n : Int} (h : kindLen.lookup k = some n) : (k = "plus" ∧ n = 3) ∨ (k = "times" ∧ n = 3) ∨ (k = "turned" ∧ n = 2) ∨ (k = "beside" ∧ n = 3) ∨ (k = "above" ∧ n = 3) ∨ (k = "piece" ∧ n = 6) ∨ (k = "star" ∧ n = 2) := by
  have := lookup_mem h
  simp only [kindLen, List.mem_cons, Prod.mk.injEq, List.not_mem_nil, or_false] at this
  exact this
section
variable {W : Wd} {P : D → Prop}
theorem kind_fine {k : Str} {n : Int} (h : kindLen.lookup k = some n) : (D.str k).fine = true := by
  rcases kind_cases h with ⟨rfl, _⟩ | ⟨rfl, _⟩ | ⟨rfl, _⟩ | ⟨rfl, _⟩ | ⟨rfl, _⟩ | ⟨rfl, _⟩ | ⟨rfl, _⟩ <;> decide +kernel
theorem eqvTx (x y : Str) : D.eqv (.str x) (.str y) = decide (x = y) := by
  show PyData.eqv (D.py (.str x)) (D.py (.str y)) = _
  simp only [D.py, PyData.eqv]
  first | rfl | (simp [BEq.beq, decide_eq_decide])
theorem rd_eqS {x y : Str} (hx : (D.str x).fine = true) (hy : (D.str y).fine = true) (h : P (.bl (decide (x = y)))) : RD W (rEqD W.K) (.str x) (.str y) P := rd_eqD hx hy (by rw [eqvTx]; exact h)
theorem rd_neS {x y : Str} (hx : (D.str x).fine = true) (hy : (D.str y).fine = true) (h : P (.bl (!decide (x = y)))) : RD W (rNeD W.K) (.str x) (.str y) P := rd_neD hx hy (by rw [eqvTx]; exact h)
theorem fineSh (p : Sh) : (shD p).fine = true := by
  simp [shD, D.fine, D.plain, D.plains, D.py, D.pys, SeqAt.shaped, PyData.canLay0, PyData.canLayAll0, PyData.depth, PyData.depthAll]
theorem eqvSh (p q : Sh) : D.eqv (shD p) (shD q) = decide (p = q) := by
  obtain ⟨a, b⟩ := p
  obtain ⟨c, d⟩ := q
  show PyData.eqv (D.py (shD (a, b))) (D.py (shD (c, d))) = _
  simp only [shD, D.py, D.pys, PyData.eqv, PyData.eqvAll]
  by_cases h : a = c <;> by_cases h2 : b = d <;> simp [h, h2]
theorem rd_eqSh {a b c d : Int} (h : P (.bl (decide ((a, b) = ((c, d) : Sh))))) : RD W (rEqD W.K) (.tup [.int a, .int b]) (.tup [.int c, .int d]) P := rd_eqD (fineSh (a, b)) (fineSh (c, d)) (by
  have := eqvSh (a, b) (c, d)
  unfold shD at this
  rw [this]
  exact h)
theorem rd_neIN {i : Int} (h : P (.bl true)) : RD W (rNeD W.K) (.int i) .non P := rd_neD (fineI i) (by decide +kernel) (by
  have : D.eqv (.int i) .non = false := by
    show PyData.eqv (D.py (.int i)) (D.py .non) = _
    simp only [D.py, PyData.eqv]
  rw [this]
  exact h)
theorem rc_max2 {i j : Int} (h : P (.int (max i j))) : RCD W (fun xs H Q => ∃ i j, xs = [.int i, .int j] ∧ Q (.int (if j > i then j else i)) H) [.int i, .int j] P := fun M H vs w r Q q => by
  cases r with
  | cons r1 r2 =>
    cases r2 with
    | cons r2 r3 =>
      cases r3
      cases r1
      cases r2
      have e : (if j > i then j else i) = max i j := by omega
      exact ⟨i, j, rfl, q _ _ H w.g (Keep.refl H) (.int _) (by rw [e]; exact h)⟩
theorem rc_min2 {i j : Int} (h : P (.int (min i j))) : RCD W (fun xs H Q => ∃ i j, xs = [.int i, .int j] ∧ Q (.int (if j < i then j else i)) H) [.int i, .int j] P := fun M H vs w r Q q => by
  cases r with
  | cons r1 r2 =>
    cases r2 with
    | cons r2 r3 =>
      cases r3
      cases r1
      cases r2
      have e : (if j < i then j else i) = min i j := by omega
      exact ⟨i, j, rfl, q _ _ H w.g (Keep.refl H) (.int _) (by rw [e]; exact h)⟩
end
theorem cutD_mid (xs : List D) (a b : Nat) : cutD xs (some (a : Int)) (some (b : Int)) = (xs.drop a).take (b - a) := by
  unfold cutD
  rw [HT.sIx_nat, HT.sIx_nat]
  by_cases h : a ≤ xs.length
  · rw [Nat.min_eq_left h]
    by_cases h2 : b ≤ xs.length
    · rw [Nat.min_eq_left h2]
    · rw [Nat.min_eq_right (by omega), List.take_of_length_le (by rw [List.length_drop]; omega), List.take_of_length_le (by rw [List.length_drop]; omega)]
  · rw [show min a xs.length = xs.length from by omega, List.drop_of_length_le (Nat.le_refl _), List.drop_of_length_le (by omega), List.take_nil, List.take_nil]
theorem cut1 (x : D) (xs : List D) : cutD (x :: xs) (some 1) none = xs := cutD_hi (x :: xs) 1
theorem cut2 (x y : D) (xs : List D) : cutD (x :: y :: xs) (some 2) none = xs := cutD_hi (x :: y :: xs) 2
theorem cut13 (x : D) (xs : List D) : cutD (x :: xs) (some 1) (some 3) = xs.take 2 := cutD_mid (x :: xs) 1 3
theorem cut12 (x : D) (xs : List D) : cutD (x :: xs) (some 1) (some 2) = xs.take 1 := cutD_mid (x :: xs) 1 2
section
variable {W : Wd} {δ : DS}
theorem gd_tup4 {g1 g2 g3 g4 : TG} {x y z u : D} {j1 j2 j3 j4 : List Nat} {Nx : DS → Prop} (h : GD W g1 x δ j1 fun δ1 => GD W g2 y δ1 j2 fun δ2 => GD W g3 z δ2 j3 fun δ3 => GD W g4 u δ3 j4 Nx) :
    GD W (gTup W.K 4 (gCons g1 (gCons g2 (gCons g3 (gCons g4 gNil))))) (.tup [x, y, z, u]) δ (j1 ++ j2 ++ j3 ++ j4) Nx := fun M σ H v p r Q q => by
  cases r with
  | @tup a vs ds hs hr =>
    obtain _ | ⟨r1, _ | ⟨r2, _ | ⟨r3, _ | ⟨r4, _ | _⟩⟩⟩⟩ := hr
    refine ⟨a, _, rfl, hs, rfl, _, _, rfl, h M σ H _ p r1 _ fun σ1 δ1 p1 h1 w1 => ⟨_, _, rfl, h1 M σ1 H _ p1 r2 _ fun σ2 δ2 p2 h2 w2 => ⟨_, _, rfl, h2 M σ2 H _ p2 r3 _ fun σ3 δ3 p3 h3 w3 => ⟨_, _, rfl, h3 M σ3 H _ p3 r4 _ fun σ4 δ4 p4 h4 w4 => ⟨rfl, q σ4 δ4 p4 h4 fun vs hv => ?_⟩⟩⟩⟩⟩
    have m : ∀ j, (j ∈ j1 ∨ j ∈ j2 ∨ j ∈ j3 ∨ j ∈ j4) → j ∈ vs := fun j hj => hv j (by
      simp only [List.mem_append]
      rcases hj with h | h | h | h
      · exact .inl (.inl (.inl h))
      · exact .inl (.inl (.inr h))
      · exact .inl (.inr h)
      · exact .inr h)
    rw [w4 vs fun j hj => m j (.inr (.inr (.inr hj))), w3 vs fun j hj => m j (.inr (.inr (.inl hj))), w2 vs fun j hj => m j (.inr (.inl hj)), w1 vs fun j hj => m j (.inl hj)]
end
/-! ### isinstance: texts, own classes -/
def D.isStr : D → Bool
  | .str _ => true
  | _ => false
def D.isIns : D → Bool
  | .ins _ _ _ => true
  | _ => false
/-- what the class at C says of objects of the built-in types -/
structure IsiC (K : PySem.W.Frag) (C : Addr) : Prop where
  kI : PySem.W.kitOne K (.type "int") (.ref C) = some false
  kB : PySem.W.kitOne K (.type "bool") (.ref C) = some false
  kS : PySem.W.kitOne K (.type "str") (.ref C) = some false
  kT : PySem.W.kitOne K (.type "tuple") (.ref C) = some false
  kL : PySem.W.kitOne K (.type "list") (.ref C) = some false
  kN : PySem.W.kitOne K (.type "NoneType") (.ref C) = some false
  kD : PySem.W.kitOne K (.type "dict") (.ref C) = some false
  yes : PySem.W.kitOne K (.ref C) (.ref C) = some true
def isiB (K : PySem.W.Frag) (C : Addr) : Bool := ["int", "bool", "str", "tuple", "list", "NoneType", "dict"].all (fun n => decide (PySem.W.kitOne K (.type n) (.ref C) = some false)) && decide (PySem.W.kitOne K (.ref C) (.ref C) = some true)
theorem isi_of {K : PySem.W.Frag} {C : Addr} (h : isiB K C = true) : IsiC K C := by
  unfold isiB at h
  simp only [List.all_cons, List.all_nil, Bool.and_eq_true, decide_eq_true_eq, Bool.and_true] at h
  obtain ⟨⟨h1, h2, h3, h4, h5, h6, h7⟩, h8⟩ := h
  exact ⟨h1, h2, h3, h4, h5, h6, h7, h8⟩
section
variable {W : Wd} {P : D → Prop}
theorem rc_isiSJ {x : D} (hx : Jd1 W.K x) (h : P (.bl x.isStr)) : RCD W (rIsi W.K) [x, .ty "str"] P := by
  cases x with
  | ins C ns ds => exact rc_isiO hx hx.kS h
  | _ => first | exact rc_isi rfl (b := true) (by decide +kernel) h | exact rc_isi rfl (b := false) (by decide +kernel) h | cases hx
theorem rc_isiC {C : Addr} {x : D} (c : IsiC W.K C) (hx : Jd1 W.K x) (hc : ∀ D ns ds, x = .ins D ns ds → D = C) (h : P (.bl x.isIns)) : RCD W (rIsi W.K) [x, .obj C] P := fun M H vs w r Q q => by
  cases r with
  | cons r1 r2 =>
    cases r2 with
    | cons r2 r3 =>
      cases r3
      cases r2
      rename_i v0
      have go : ∀ {t : Value} {b : Bool}, TyX W.K H v0 t → PySem.W.kitOne W.K t (.ref C) = some b → P (.bl b) → rIsi W.K [v0, V.ref C] H Q := fun {t b} ht hk hP => ⟨v0, _, _, _, b, rfl, .own C, ht, hk, q _ _ H w.g (Keep.refl H) (.bl b) hP⟩
      cases x with
      | ins D ns ds =>
        have := hc D ns ds rfl
        subst this
        exact go (tyxO hx r1) c.yes h
      | non => exact go (tyx r1 rfl) c.kN h
      | bl b => exact go (tyx r1 rfl) c.kB h
      | int i => exact go (tyx r1 rfl) c.kI h
      | str y => exact go (tyx r1 rfl) c.kS h
      | tup xs => exact go (tyx r1 rfl) c.kT h
      | lst xs => exact go (tyx r1 rfl) c.kL h
      | dct => exact go (tyx r1 rfl) c.kD h
      | dic ks ds => exact go (tyx r1 rfl) c.kD h
      | _ => cases hx
end
/-! ### grids that are judged -/
/-- an object is a right grid -/
def okIns (C : Addr) (x : D) : Prop := ∀ E ns ds, x = .ins E ns ds → ∃ n m xs, x = gd C n xs ∧ Grd n m xs
def okIns2 (C : Addr) (x : D) : Prop := okIns C x ∧ ∀ xs, x = .tup xs → ∀ e ∈ xs, okIns C e
def noIns2 (x : D) : Bool := !x.isIns && (match x with
  | .tup xs => xs.all (!·.isIns)
  | _ => true)
theorem okIns_of {C : Addr} {x : D} (h : x.isIns = false) : okIns C x := fun E ns ds z => by
  rw [z] at h
  cases h
theorem okIns2_of {C : Addr} {x : D} (h : noIns2 x = true) : okIns2 C x := by
  unfold noIns2 at h
  simp only [Bool.and_eq_true, Bool.not_eq_true'] at h
  refine ⟨okIns_of h.1, fun xs z e he => ?_⟩
  subst z
  have := List.all_eq_true.mp h.2 e he
  exact okIns_of (by simpa using this)
theorem okIns_gd {C : Addr} {n : Int} {m : Nat} {xs : List D} (g : Grd n m xs) : okIns C (gd C n xs) := fun _ _ _ _ => ⟨n, m, xs, rfl, g⟩
theorem okIns2_gd {C : Addr} {n : Int} {m : Nat} {xs : List D} (g : Grd n m xs) : okIns2 C (gd C n xs) := ⟨okIns_gd g, fun xs z => by cases z⟩
theorem okIns2_tup {C : Addr} {xs : List D} (h : ∀ e ∈ xs, okIns C e) : okIns2 C (.tup xs) := ⟨fun _ _ _ z => by (cases z), fun ys z e he => by
  cases z
  exact h e he⟩
def basD : D → Int
  | .ins _ _ (.int b :: _) => b
  | _ => 0
def areG : D → Bool
  | .tup xs => decide (1 ≤ xs.length) && decide (xs.length ≤ 6) && xs.all D.isIns && xs.all (fun e => decide (basD e = basD (xs.headD .non)))
  | _ => false
def shG : D → Sh
  | .ins _ _ [_, .tup rows] => (rows.length, (rows.headD .non).len)
  | _ => (0, 0)
/-- steps done one behind another: the shapes, or the first one that can't be done -/
def runS : List Sh → List D → Nat → List Sh ⊕ Nat
  | shs, [], _ => .inl shs
  | shs, x :: r, k => match madeD shs x with
    | none => .inr k
    | some p => runS (shs ++ [p]) r (k + 1)
def wrongS (g st : D) : D :=
  if areG g then
    (match st with
      | .tup xs => if xs.length ≤ 16 then (match runS ((items g).map shG) xs 0 with
        | .inl _ => .non
        | .inr k => .int k) else .str "steps"
      | _ => .str "steps")
  else .str "grids"
end PD
namespace PD
open PySem PySem.Spec PyProof.Rows L2
open PDX PDI PDT
mutual
def D.nolst : D → Bool
  | .lst _ => false
  | .tup xs => D.nolsts xs
  | .ins _ _ xs => D.nolsts xs
  | .exc _ _ _ xs => D.nolsts xs
  | .xob _ _ xs => D.nolsts xs
  | .dic _ xs => D.nolsts xs
  | _ => true
def D.nolsts : List D → Bool
  | [] => true
  | x :: xs => x.nolst && D.nolsts xs
end
section
variable {W : Wd} {M : Addr → Prop} {H : Hp}
/-- M, and all lists that stand -/
def withL (M : Addr → Prop) (H : Hp) : Addr → Prop := fun a => M a ∨ ∃ vs, H a = some (.lst vs)
theorem not_withL {a : Addr} {o : HO} (n : ¬ M a) (h : H a = some o) (ho : ∀ vs, o ≠ .lst vs) : ¬ withL M H a := fun z => by
  rcases z with z | ⟨vs, z⟩
  · exact n z
  · rw [h] at z
    exact ho vs (Option.some.inj z)
mutual
theorem Rep.withL : ∀ {v : V} {d : D}, Rep W M H v d → d.nolst = true → Rep W (withL M H) H v d
  | _, _, .non, _ => .non
  | _, _, .bl b, _ => .bl b
  | _, _, .int i, _ => .int i
  | _, _, .str x, _ => .str x
  | _, _, .ty n, _ => .ty n
  | _, _, .tup hs r, h => .tup hs (r.withL (by simpa [D.nolst] using h))
  | _, _, .lst _ _ _, h => by simp [D.nolst] at h
  | _, _, .st e, _ => .st e
  | _, _, .obj a, _ => .obj a
  | _, _, .dct n e, _ => .dct (not_withL n e fun _ z => by cases z) e
  | _, _, .rng n e, _ => .rng (not_withL n e fun _ z => by cases z) e
  | _, _, .ins n e q r, h => .ins (not_withL n e fun _ z => by cases z) e q (r.withL (by simpa [D.nolst] using h))
  | _, _, .exc n e q r, h => .exc (not_withL n e fun _ z => by cases z) e q (r.withL (by simpa [D.nolst] using h))
  | _, _, .xob0 n e, _ => .xob0 (not_withL n e fun _ z => by cases z) e
  | _, _, .xob n e n2 e2 q r, h => .xob (not_withL n e fun _ z => by cases z) e (not_withL n2 e2 fun _ z => by cases z) e2 q (r.withL (by simpa [D.nolst] using h))
  | _, _, .dic n e q r, h => .dic (not_withL n e fun _ z => by cases z) e q (r.withL (by simpa [D.nolst] using h))
theorem Reps.withL : ∀ {vs : List V} {ds : List D}, Reps W M H vs ds → D.nolsts ds = true → Reps W (withL M H) H vs ds
  | _, _, .nil, _ => .nil
  | _, _, .cons r t, h => by
    simp only [D.nolsts, Bool.and_eq_true] at h
    exact .cons (r.withL h.1) (t.withL h.2)
end
end
section
variable {W : Wd} {Wx : WX} {X : XV → DS → Prop} {ω : Om} {δ : DS} {N : Om → DS → Prop} {R : D → Prop} {B C : Om → DS → Prop} {te : TE} {ta : TA}
/-- no list is known in the slots -/
def noL (δ : DS) : Prop := ∀ d, some d ∈ δ → d.nolst = true
/-- a list that was not there before is one's own -/
theorem so_have {i : Nat} {M0 M1 M : Addr → Prop} {H0 L1 H H2 : Hp} {σ : L2.St} {E : Ends} {a : Addr} {vs : List V} {ds : List D} (d0 : ∀ a, M0 a → ∃ o, H0 a = some o) (p : Pre W M δ σ H) (ow : Own W M0 M H ω) (e : In2 W M0 H0 M1 L1 M H)
    (o : OutsO W Wx M0 H0 M1 L1 N R B C X E) (g2 : StOk W H2) (k2 : Keep W H H2) (ha : H a = none) (hv : H2 a = some (.lst vs)) (r : Reps W (fun b => M b ∨ b = a) H2 vs ds) (hN : (∀ x ∈ ω, x.1 ≠ a) → N ((a, ds) :: ω) (δ.set i (some (.obj a)))) :
    E.nx (σ.set i (some (.ref a))) H2 := by
  have ns : W.s ≠ some a := fun z => by
    obtain ⟨_, _, _, _, q, _⟩ := p.wf.g a z
    rw [ha] at q
    cases q
  have off0 : H0 a = none := by
    cases h0 : H0 a with
    | none => rfl
    | some oo =>
      rw [e.e.k a oo ns h0] at ha
      cases ha
  have n0 : ¬ M0 a := fun z => by
    obtain ⟨oo, ho⟩ := d0 a z
    rw [off0] at ho
    cases ho
  have e2 : Ent W M H (fun b => M b ∨ b = a) H2 := ⟨k2, fun _ x => .inl x, fun b x y => by
    rcases x with x | x
    · exact absurd x y
    · rw [x]; exact ha⟩
  have wf' : Wf W (fun b => M b ∨ b = a) H2 := ⟨g2, fun b z => .inl (p.wf.sm b z), fun b x => by
    rcases x with x | x
    · exact (p.wf.next g2 k2).dom b x
    · rw [x]; exact ⟨_, hv⟩⟩
  have wg' : Wg W (fun b => M b ∨ b = a) H := ⟨p.wf.g, fun b z => .inl (p.wf.sm b z)⟩
  have sl : Slots W (fun b => M b ∨ b = a) H2 σ δ := ⟨p.sl.len, fun j d hd => by
    obtain ⟨v, a1, a2⟩ := p.sl.get j d hd
    exact ⟨v, a1, (a2.more e2.new).keepG wg' k2⟩⟩
  refine o.nx (fun b => M b ∨ b = a) _ ((a, ds) :: ω) _ _ ⟨wf', sl.set i (.obj a)⟩ (fun b es m => ?_) (e.trans p.wf e2) (hN fun x hx z => ?_)
  · rcases List.mem_cons.mp m with m | m
    · cases m
      exact ⟨.inr rfl, n0, ns, fun s hs z => (by
        obtain ⟨_, _, _, _, _, _, q, _⟩ := p.wf.g s hs
        rw [z, ha] at q
        cases q), vs, hv, r⟩
    · exact ow.move p.wf wf' e2 b es m
  · obtain ⟨_, _, _, _, vs', q, _⟩ := ow x.1 x.2 hx
    rw [z, ha] at q
    cases q
/-- i = e, e a new list of plain items -/
theorem so_asgN {i : Nat} (hn : noL δ) (h : EvD W te δ fun d => ∃ ds, d = .lst ds ∧ D.nrefs ds = true ∧ ∀ p, (∀ x ∈ ω, x.1 ≠ p) → N ((p, ds) :: ω) (δ.set i (some (.obj p)))) : SO W Wx (tAsg te (gName i)) ω δ N R B C X := fun M0 H0 M1 L1 M σ H E d0 p ow e o => by
  have wf2 : Wf W (withL M H) H := ⟨p.wf.g, fun a z => .inl (p.wf.sm a z), fun a z => by
    rcases z with z | ⟨vs, z⟩
    · exact p.wf.dom a z
    · exact ⟨_, z⟩⟩
  have p2 : Pre W (withL M H) δ σ H := ⟨wf2, p.sl.len, fun j d hd => by
    obtain ⟨v, a1, a2⟩ := p.sl.get j d hd
    exact ⟨v, a1, a2.withL (hn d (List.mem_of_getElem? hd))⟩⟩
  refine h (withL M H) σ H p2 _ fun v d H2 g2 k2 r h1 => ?_
  obtain ⟨ds, rfl, nr, hN⟩ := h1
  cases r with
  | @lst a vs _ n hv hr =>
    have ha : H a = none := by
      cases q : H a with
      | none => rfl
      | some oo =>
        have ns : W.s ≠ some a := fun z => n (.inl (p.wf.sm a z))
        have := k2 a oo ns q
        rw [hv] at this
        have := Option.some.inj this
        exact absurd (.inr ⟨vs, by rw [q, this]⟩) n
    exact so_have d0 p ow e o g2 k2 ha hv (hr.nref nr) (hN a)
/-- i = e, e a list that was not there before -/
theorem so_asgF {i : Nat} (h : EvF W te δ fun ds => ∀ p, (∀ x ∈ ω, x.1 ≠ p) → N ((p, ds) :: ω) (δ.set i (some (.obj p)))) : SO W Wx (tAsg te (gName i)) ω δ N R B C X := fun M0 H0 M1 L1 M σ H E d0 p ow e o =>
  h M σ H p _ fun a vs ds H2 g2 k2 ha nm hv r hN => so_have d0 p ow e o g2 k2 ha hv r (hN a)
/-- i = list(e) -/
theorem so_list {i : Nat} (h : EvA W ta δ fun xs => ∃ ds, (xs = [.tup ds] ∨ xs = [.lst ds]) ∧ D.nrefs ds = true ∧ ∀ p, (∀ x ∈ ω, x.1 ≠ p) → N ((p, ds) :: ω) (δ.set i (some (.obj p)))) :
    SO W Wx (tAsg (tCB (fun xs H Q => ∃ p ys, xs = [V.ref p] ∧ (SqL W.K H p ys ∨ SqT W.K H p ys) ∧ ∀ l, H l = none → Q (.ref l) (upd H l (.lst ys))) ta) (gName i)) ω δ N R B C X := fun M0 H0 M1 L1 M σ H E d0 p ow e o =>
  h M σ H p _ fun us xs H1 g1 k1 r1 h1 => by
    obtain ⟨ds, hx, nr, hN⟩ := h1
    have go : ∀ (q : Addr) (ys : List V), us = [.ref q] → (SqL W.K H1 q ys ∨ SqT W.K H1 q ys) → Reps W M H1 ys ds → ∃ p ys, us = [V.ref p] ∧ (SqL W.K H1 p ys ∨ SqT W.K H1 p ys) ∧ ∀ l, H1 l = none → E.nx (σ.set i (some (.ref l))) (upd H1 l (.lst ys)) := fun q ys eu hs hr => ⟨q, ys, eu, hs, fun l hl => by
      have hl0 : H l = none := by
        cases z : H l with
        | none => rfl
        | some oo =>
          have ns : W.s ≠ some l := fun w => by
            obtain ⟨_, _, _, _, q, _⟩ := g1 l w
            rw [hl] at q
            cases q
          rw [k1 l oo ns z] at hl
          cases hl
      have k2 : Keep W H1 (upd H1 l (.lst ys)) := Keep.new hl
      exact so_have d0 p ow e o (g1.new hl) (k1.trans k2) hl0 upd_same ((hr.keepG (p.next g1 k1).wf.wg k2).nref nr) (hN l)⟩
    rcases hx with rfl | rfl
    · cases r1 with
      | cons r1 r2 =>
        cases r2
        cases r1 with
        | tup hs hr => exact go _ _ rfl (.inr hs) hr
    · cases r1 with
      | cons r1 r2 =>
        cases r2
        cases r1 with
        | lst n hs hr => exact go _ _ rfl (.inl (.inl (.inl hs))) hr
end
theorem nrefs_sh (l : List Sh) : D.nrefs (l.map shD) = true := nrefs_of fun x hx => by
  obtain ⟨p, _, rfl⟩ := List.mem_map.mp hx
  exact nref_tup fun y hy => by
    simp only [List.mem_cons, List.not_mem_nil, or_false] at hy
    rcases hy with rfl | rfl <;> rfl
theorem nref_opt (o : Option Sh) : (optSh o).nref = true := by
  cases o with
  | none => rfl
  | some p =>
    exact nref_tup fun y hy => by
      simp only [List.mem_cons, List.not_mem_nil, or_false] at hy
      rcases hy with rfl | rfl <;> rfl
theorem areG_ins {C : Addr} {xs : List D} (hc : ∀ e ∈ xs, okIns C e) (h : xs.all D.isIns = true) {e : D} (he : e ∈ xs) : ∃ n m ys, e = gd C n ys ∧ Grd n m ys := by
  have := List.all_eq_true.mp h e he
  cases e <;> first | exact hc _ he _ _ _ rfl | cases this
theorem areG_tup {g : D} (h : areG g = true) : ∃ xs, g = .tup xs ∧ 1 ≤ xs.length ∧ xs.length ≤ 6 ∧ xs.all D.isIns = true := by
  unfold areG at h
  split at h
  · rename_i xs
    simp only [Bool.and_eq_true, decide_eq_true_eq] at h
    exact ⟨xs, rfl, h.1.1.1, h.1.1.2, h.1.2⟩
  · cases h
theorem wrongS_no {g st : D} (h : areG g = false) : wrongS g st = .str "grids" := by
  unfold wrongS
  rw [h]
  rfl
theorem wrongS_in {gs : List D} {st : D} (h : areG (.tup gs) = true) : wrongS (.tup gs) st = (match st with
      | .tup xs => if xs.length ≤ 16 then (match runS (gs.map shG) xs 0 with
        | .inl _ => .non
        | .inr k => .int k) else .str "steps"
      | _ => .str "steps") := by
  unfold wrongS
  rw [h]
  rfl
end PD
namespace PD
open PySem PySem.Spec PyProof.Rows L2
open PDX PDI PDT
abbrev FJ := List D → (D → List D → Prop) → Prop
def spJ (K : PySem.W.Frag) (F : FJ) : Sp := fun vs H Q _ => ∃ (W : Wd) (M : Addr → Prop) (v0 v2 : V) (a : Addr) (us : List V) (d0 d2 : D) (es : List D) (P : D → List D → Prop), vs = [v0, .ref a, v2] ∧ W.K = K ∧ Wf W M H ∧ Rep W M H v0 d0 ∧ Rep W M H v2 d2 ∧ M a ∧ W.s ≠ some a ∧
  (∀ s, W.s = some s → W.b ≠ a) ∧ H a = some (.lst us) ∧ Reps W M H us es ∧ F [d0, .lst es, d2] P ∧
  ∀ v d H' us' es', StOk W H' → (∀ x o, x ≠ a → W.s ≠ some x → H x = some o → H' x = some o) → H' a = some (.lst us') → Reps W M H' us' es' → Rep W M H' v d → P d es' → Q v H'
theorem spJ_len {K : PySem.W.Frag} {F : FJ} {n : Nat} (hF : ∀ ds P, F ds P → ds.length = n) (vs : List V) (H : Hp) (Q : VK) (E : XK) (h : spJ K F vs H Q E) : vs.length = n := by
  obtain ⟨_, _, _, _, _, _, _, _, _, _, rfl, _, _, _, _, _, _, _, _, _, f, _⟩ := h
  exact hF _ _ f
/-- the body: two rows and a return, behind which the list holds what it holds -/
theorem body_ofJ {K : PySem.W.Frag} {F : FJ} {vs : List V} {H : Hp} {Q : VK} {E : XK} {N : List Str} {t1 t2 : TS} {te : TE} (h : spJ K F vs H Q E)
    (hb : ∀ W d0 es d2 a P, W.K = K → F [d0, .lst es, d2] P → SO W WF (tSeq t1 t2) [(a, es)] (startD N.length [d0, .obj a, d2]) (fun ω δ => ∃ es', (a, es') ∈ ω ∧ EvL W te ω δ fun d => d.nref = true ∧ P d es') (fun _ => False) (fun _ _ => False) (fun _ _ => False) XN) :
    tSeq t1 (tSeq t2 (tRet te)) { nx := fun _ H' => Q .non H', rt := Q } (L2.start N vs) H := by
  obtain ⟨W, M, v0, v2, a, us, d0, d2, es, P, rfl, e, w, r0, r2, ma, ns, nb, ha, re, f, q⟩ := h
  have r : Reps W M H [v0, .ref a, v2] [d0, .obj a, d2] := .cons r0 (.cons (.obj a) (.cons r2 .nil))
  have k0 : Keep W (del H a) H := fun x o _ h => by
    by_cases z : x = a
    · subst z
      rw [del_same] at h
      cases h
    · rw [del_ne z] at h
      exact h
  refine hb W d0 es d2 a P e f (fun x => M x ∧ x ≠ a) (del H a) M H M _ H { nx := tRet te { nx := fun _ H' => Q .non H', rt := Q }, rt := Q } (fun x hx => ?_) ⟨w, start_slots N r⟩ (fun b ds m => ?_) ⟨⟨k0, fun x hx => hx.1, fun x hx nx => ?_⟩, EntM.refl M H⟩
    ⟨fun M' σ' ω' δ' H' p' ow' e' x => ?_, fun v d H' g k r' x => x.elim, fun _ _ _ _ _ _ _ _ x => x.elim, fun _ _ _ _ _ _ _ _ x => x.elim, fun _ _ _ _ _ _ _ _ _ _ z => z.elim⟩
  · obtain ⟨o, ho⟩ := w.dom x hx.1
    exact ⟨o, by rw [del_ne hx.2]; exact ho⟩
  · rw [List.mem_singleton] at m
    cases m
    exact ⟨ma, fun z => z.2 rfl, ns, nb, us, ha, re⟩
  · by_cases z : x = a
    · rw [z, del_same]
    · exact absurd ⟨hx, z⟩ nx
  · obtain ⟨es', hm, hE⟩ := x
    obtain ⟨hM, n0, _, _, us', ha', re'⟩ := ow' a es' hm
    obtain ⟨p2, l2⟩ := own_lend p' ow'
    refine hE _ σ' H' p2 l2 _ fun v d H2 g2 k2 r2' h2 => ?_
    have mm : ∀ y, M y → M' y := fun y hy => by
      by_cases z : y = a
      · rw [z]
        exact hM
      · exact e'.e.m y ⟨hy, z⟩
    exact q v d H2 us' es' g2 (fun y o ny nsy ho => k2 y o nsy (e'.e.k y o nsy (by rw [del_ne ny]; exact ho))) (k2 a _ ns ha') ((re'.keep p'.wf k2).anti mm) (r2'.nref h2.1) h2.2
/-- such a call over a list that was not there before -/
theorem ev_callJ {W : Wd} {δ : DS} {F : FJ} {E : XK} {t0 t1 t2 : TE} {P : D → Prop} (h : EvD W t0 δ fun d0 => EvF W t1 δ fun es => EvD W t2 δ fun d2 => F [d0, .lst es, d2] fun d _ => P d) : EvD W (tCall (spJ W.K F) [] E (tCons t0 (tCons t1 (tCons t2 tNil)))) δ P := fun M σ H p Q q =>
  h M σ H p _ fun v0 d0 H1 g1 k1 r0 h1 => h1 M σ H1 (p.next g1 k1) _ fun a us es H2 g2 k2 ha nm hv re h2 => by
    have p1 := p.next g1 k1
    have ns : W.s ≠ some a := fun z => nm (p.wf.sm a z)
    have nb : ∀ s, W.s = some s → W.b ≠ a := fun s hs z => by
      obtain ⟨_, _, _, _, _, _, q, _⟩ := p1.wf.g s hs
      rw [z, ha] at q
      cases q
    have wg1 : Wg W (fun b => M b ∨ b = a) H1 := ⟨g1, fun b z => .inl (p.wf.sm b z)⟩
    have new1 : ∀ x, (M x ∨ x = a) → ¬ M x → H1 x = none := fun x hx nx => by
      rcases hx with hx | hx
      · exact absurd hx nx
      · rw [hx]
        exact ha
    have p2 : Pre W (fun b => M b ∨ b = a) δ σ H2 := ⟨⟨g2, fun b z => .inl (p.wf.sm b z), fun b hb => by
      rcases hb with hb | hb
      · exact (p1.wf.next g2 k2).dom b hb
      · rw [hb]
        exact ⟨_, hv⟩⟩, p1.sl.len, fun j d hd => by
      obtain ⟨v, a1, a2⟩ := p1.sl.get j d hd
      exact ⟨v, a1, (a2.more new1).keepG wg1 k2⟩⟩
    have r0' : Rep W (fun b => M b ∨ b = a) H2 v0 d0 := (r0.more new1).keepG wg1 k2
    refine h2 (fun b => M b ∨ b = a) σ H2 p2 _ fun v2 d2 H3 g3 k3 r2 hF => ?_
    refine ⟨W, fun b => M b ∨ b = a, v0, v2, a, us, d0, d2, es, _, rfl, rfl, p2.wf.next g3 k3, r0'.keep p2.wf k3, r2, .inr rfl, ns, nb, k3 a _ ns hv, re.keep p2.wf k3, hF, fun v d H' us' es' g' k' _ _ r' hP => ?_⟩
    refine q v d H' g' (fun x o nsx ho => ?_) (r'.anti fun b hb => .inl hb) hP
    have h1x := k1 x o nsx ho
    exact k' x o (ne_of_none h1x ha) nsx (k3 x o nsx (k2 x o nsx h1x))
/-- such a call over a list of one's own, as a row: i = f(e, xs, e) -/
theorem so_callJ {W : Wd} {Wx : WX} {X : XV → DS → Prop} {ω : Om} {δ : DS} {N : Om → DS → Prop} {R : D → Prop} {B C : Om → DS → Prop} {F : FJ} {E' : XK} {t0 t2 : TE} {i j : Nat} {a : Addr} {es : List D} (hj : δ[j]? = some (some (.obj a))) (hm : Has ω a es)
    (h : EvD W t0 δ fun d0 => EvD W t2 δ fun d2 => F [d0, .lst es, d2] fun d es' => N (putO ω a fun _ => es') (δ.set i (some d))) : SO W Wx (tAsg (tCall (spJ W.K F) [] E' (tCons t0 (tCons (tVar j) (tCons t2 tNil)))) (gName i)) ω δ N R B C X := fun M0 H0 M1 L1 M σ H E d0 p ow e o =>
  h M σ H p _ fun v0 x0 H1 g1 k1 r0 h1 => by
    obtain ⟨va, sa, ra⟩ := p.sl.get j _ hj
    cases ra
    refine ⟨_, sa, ?_⟩
    have p1 := p.next g1 k1
    refine h1 M σ H1 p1 _ fun v2 x2 H2 g2 k2 r2 hF => ?_
    have p2 := p1.next g2 k2
    have e2 := (e.next p.wf k1).next p1.wf k2
    have ow2 := (ow.keep p.wf k1).keep p1.wf k2
    obtain ⟨hM, n0, ns, nb, us, ha, re⟩ := ow2 a es hm.1
    refine ⟨W, M, v0, v2, a, us, x0, x2, es, _, rfl, rfl, p2.wf, r0.keep p1.wf k2, r2, hM, ns, nb, ha, re, hF, fun v d H' us' es' g' k' ha' re' rv hN => ?_⟩
    have kM : KeepM W M H2 H' := fun x oo nsx nl hx => k' x oo (fun z => by
      rw [z, ha] at hx
      exact nl (by rw [z]; exact hM) us (Option.some.inj hx).symm) nsx hx
    have wf' : Wf W M H' := ⟨g', p2.wf.sm, fun x hx => by
      by_cases z : x = a
      · exact ⟨_, by rw [z]; exact ha'⟩
      · by_cases zs : W.s = some x
        · obtain ⟨_, _, _, _, q, _⟩ := g' x zs
          exact ⟨_, q⟩
        · obtain ⟨oo, ho⟩ := p2.wf.dom x hx
          exact ⟨oo, k' x oo z zs ho⟩⟩
    have sl : Slots W M H' σ δ := ⟨p2.sl.len, fun jj dd hd => by
      obtain ⟨v, a1, a2⟩ := p2.sl.get jj dd hd
      exact ⟨v, a1, a2.keepM p2.wf.wg kM⟩⟩
    have off : H0 a = none := by
      cases z : H0 a with
      | none => rfl
      | some oo => exact absurd (e2.e.new a hM n0) (by rw [z]; intro y; cases y)
    refine o.nx M _ (putO ω a fun _ => es') _ _ ⟨wf', sl.set i rv⟩ (fun b ds m => ?_) ⟨⟨fun x oo nsx hx => ?_, e2.e.m, e2.e.new⟩, ?_⟩ hN
    · obtain ⟨ds0, m0, ed⟩ := mem_putO m
      by_cases z : b = a
      · rw [if_pos z] at ed
        subst z ed
        exact ⟨hM, n0, ns, nb, us', ha', re'⟩
      · rw [if_neg z] at ed
        subst ed
        obtain ⟨b1, b2, b3, b4, ws, b5, b6⟩ := ow2 b ds m0
        exact ⟨b1, b2, b3, b4, ws, k' b _ z b3 b5, b6.keepM p2.wf.wg kM⟩
    · exact k' x oo (ne_of_none hx off) nsx (e2.e.k x oo nsx hx)
    · have step : EntM W M H2 M H' := ⟨kM, fun _ x => x, fun x y z => absurd y z⟩
      exact e2.l.trans step p2.wf
/-- what a grid says of what it is compared with -/
def eqG (n : Int) (xs : List D) : D → Bool
  | .ins _ _ [b, x] => D.eqv (.int n) b && D.eqv (.tup xs) x
  | _ => false
/-! ### == of tuples of grids that are alike -/
mutual
theorem Rep.swapW {W W' : Wd} {M : Addr → Prop} {H : Hp} (hK : W'.K = W.K) : ∀ {v : V} {d : D}, Rep W M H v d → d.plain = true → Rep W' M H v d
  | _, _, .non, _ => .non
  | _, _, .bl b, _ => .bl b
  | _, _, .int i, _ => .int i
  | _, _, .str x, _ => .str x
  | _, _, .ty n, h => by simp [D.plain] at h
  | _, _, .tup hs r, h => .tup (by rw [hK]; exact hs) (r.swapW hK (by simpa [D.plain] using h))
  | _, _, .lst n hs r, h => .lst n hs (r.swapW hK (by simpa [D.plain] using h))
  | _, _, .st _, h => by simp [D.plain] at h
  | _, _, .obj _, h => by simp [D.plain] at h
  | _, _, .dct _ _, h => by simp [D.plain] at h
  | _, _, .rng _ _, h => by simp [D.plain] at h
  | _, _, .ins _ _ _ _, h => by simp [D.plain] at h
  | _, _, .exc _ _ _ _, h => by simp [D.plain] at h
  | _, _, .xob0 _ _, h => by simp [D.plain] at h
  | _, _, .xob _ _ _ _ _ _, h => by simp [D.plain] at h
  | _, _, .dic _ _ _ _, h => by simp [D.plain] at h
theorem Reps.swapW {W W' : Wd} {M : Addr → Prop} {H : Hp} (hK : W'.K = W.K) : ∀ {vs : List V} {ds : List D}, Reps W M H vs ds → D.plains ds = true → Reps W' M H vs ds
  | _, _, .nil, _ => .nil
  | _, _, .cons r t, h => by
    simp only [D.plains, Bool.and_eq_true] at h
    exact .cons (r.swapW hK h.1) (t.swapW hK h.2)
end
/-- no state, no list that changes -/
def stillW (K : PySem.W.Frag) : Wd := ⟨K, none, 0⟩
theorem stillW_g (K : PySem.W.Frag) (M : Addr → Prop) (H : Hp) : Wg (stillW K) M H := ⟨fun s e => (by cases e), fun a e => (by cases e)⟩
/-- at a and at b grids that are alike -/
def RG (K : PySem.W.Frag) (C : Addr) (a b : Addr) (H : Hp) : Prop := ∃ (n : Int) (m : Nat) (xs : List D) (n' : Int) (m' : Nat) (xs' : List D), Grd n m xs ∧ Grd n' m' xs' ∧ Rep (stillW K) (fun _ => False) H (.ref a) (gd C n xs) ∧ Rep (stillW K) (fun _ => False) H (.ref b) (gd C n' xs') ∧ eqG n xs (gd C n' xs') = true
theorem keep_ext {K : PySem.W.Frag} {H H' : Hp} (e : Ext H H') : Keep (stillW K) H H' := fun a o _ h => e a o h
theorem RG.mon {K : PySem.W.Frag} {C : Addr} : ∀ a b H H', Ext H H' → RG K C a b H → RG K C a b H' := fun a b H H' e ⟨n, m, xs, n', m', xs', g, g', r, r', q⟩ => ⟨n, m, xs, n', m', xs', g, g', r.keepG (stillW_g K _ H) (keep_ext e), r'.keepG (stillW_g K _ H) (keep_ext e), q⟩
theorem op_eqGK {X : Cx} {K : PySem.W.Frag} {CX : CXT} {k : Nat} {C f : Addr} {fd : FuncData} {ps : List Str} {Fg : FD} {E : XK} (h : X.K = K) (T : EqT K C f) (F : FnOk X.prog X.w K X.mg X.base CX k f fd ps (spD K Fg)) (hr : Room (k + 1) X.A) (hb : Binds K fd ps []) (hx : Passes CX X E)
    (hF : ∀ n m xs n' m' xs', Grd n m xs → Grd n' m' xs' → eqG n xs (gd C n' xs') = true → Fg [gd C n xs, gd C n' xs'] fun d => d = .bl true) : OpR X (compareOp .Eq) (rEqG (DTup K (DIns C (RG K C)))) := by
  subst h
  have F2 : FnOk X.prog X.w X.K X.mg X.base CX k f fd ps (spEq (RG X.K C)) := F.imp fun vs H Q E' q => by
    obtain ⟨a, b, rfl, ⟨n, m, xs, n', m', xs', g, g', r, r', e⟩, hq⟩ := q
    refine ⟨stillW X.K, fun _ => False, [gd C n xs, gd C n' xs'], fun d => d = .bl true, rfl, ⟨fun s z => (by cases z), fun a z => (by cases z), fun a z => z.elim⟩, .cons r (.cons r' .nil), hF n m xs n' m' xs' g g' e, fun v d H' _ kk rv hd => ?_⟩
    subst hd
    cases rv
    exact hq H' fun a o ho => kk a o (by intro z; cases z) ho
  exact op_eqG (rcG_tup (mon_ins RG.mon) (eqG_ins F2 T.e T.fn hb hx)) hr
theorem rd_eqGs {W : Wd} {P : D → Prop} {C : Addr} {xs ys : List D} (hl : xs.length = ys.length) (h : ∀ (i : Nat) x y, xs[i]? = some x → ys[i]? = some y → ∃ n m zs n' m' zs', x = gd C n zs ∧ y = gd C n' zs' ∧ Grd n m zs ∧ Grd n' m' zs' ∧ eqG n zs (gd C n' zs') = true) (hP : P (.bl true)) :
    RD W (rEqG (DTup W.K (DIns C (RG W.K C)))) (.tup xs) (.tup ys) P := fun M H v u wf r1 r2 Q q => by
  have still : ∀ {v : V} {n : Int} {m : Nat} {zs : List D}, Grd n m zs → Rep W M H v (gd C n zs) → Rep (stillW W.K) (fun _ => False) H v (gd C n zs) := fun {v n m zs} g r => by
    have r := r.anti (M' := fun _ => False) fun a z => z.elim
    have hf := g.fine
    unfold D.fine at hf
    simp only [Bool.and_eq_true] at hf
    cases r with
    | ins n0 ha e hr => exact .ins n0 ha e (hr.swapW (W := W) (W' := stillW W.K) rfl (by simp only [D.plains, D.plain, Bool.and_eq_true]; refine ⟨trivial, ?_, trivial⟩; simpa [D.plain] using hf.1))
  cases r1 with
  | @tup a vs _ hs hr =>
    cases r2 with
    | @tup b us _ hs2 hr2 =>
      refine ⟨⟨a, b, vs, us, rfl, rfl, hs, hs2, by rw [hr.length, hr2.length, hl], fun i x y h1 h2 => ?_⟩, fun H' e => q _ _ H' (fun s hs => ?_) (fun a o _ ho => e a o ho) (.bl true) hP⟩
      · obtain ⟨d1, e1, rr1⟩ := hr.got h1
        obtain ⟨d2, e2, rr2⟩ := hr2.got h2
        obtain ⟨n, m, zs, n', m', zs', rfl, rfl, g, g', eq⟩ := h i d1 d2 e1 e2
        have k1 := still g rr1
        have k2 := still g' rr2
        cases rr1 with
        | @ins a1 _ dx1 fs1 _ _ n1 ha1 f1 q1 =>
          cases rr2 with
          | @ins a2 _ dx2 fs2 _ _ n2 ha2 f2 q2 => exact ⟨a1, a2, dx1, dx2, fs1, fs2, rfl, rfl, ha1, ha2, n, m, zs, n', m', zs', g, g', k1, k2, eq⟩
      · obtain ⟨ns, i, c, m, a1, a2, a3, a4⟩ := wf.g s hs
        exact ⟨ns, i, c, m, e _ _ a1, a2, e _ _ a3, a4⟩
/-! ### what is wrong of a script, or not -/
theorem wrongS_cases (g st : D) : wrongS g st = .non ∨ wrongS g st = .str "grids" ∨ wrongS g st = .str "steps" ∨ ∃ k : Nat, wrongS g st = .int k := by
  unfold wrongS
  split
  · split
    · split
      · split
        · exact .inl rfl
        · exact .inr (.inr (.inr ⟨_, rfl⟩))
      · exact .inr (.inr (.inl rfl))
    · exact .inr (.inr (.inl rfl))
  · exact .inr (.inl rfl)
theorem wrongS_fine (g st : D) : (wrongS g st).fine = true ∧ (D.tup [wrongS g st]).fine = true := by
  rcases wrongS_cases g st with h | h | h | ⟨k, h⟩ <;> rw [h]
  · exact ⟨by decide +kernel, by decide +kernel⟩
  · exact ⟨by decide +kernel, by decide +kernel⟩
  · exact ⟨by decide +kernel, by decide +kernel⟩
  · exact ⟨fineI _, by simp [D.fine, D.plain, D.plains, D.py, D.pys, SeqAt.shaped, PyData.canLay0, PyData.canLayAll0, PyData.depth, PyData.depthAll]⟩
theorem runS_st : ∀ {xs : List D} {shs r : List Sh} {k : Nat}, runS shs xs k = .inl r → ∀ x ∈ xs, ∃ w l, x = stD w l ∧ kindLen.lookup w = some ((l.length : Int) + 1)
  | [], _, _, _, _, x, hx => by cases hx
  | y :: xs, shs, r, k, h, x, hx => by
    unfold runS at h
    cases e : madeD shs y with
    | none => rw [e] at h; cases h
    | some p =>
      rw [e] at h
      rcases List.mem_cons.mp hx with rfl | hx
      · unfold madeD at e
        cases e2 : stepOf x with
        | none => rw [e2] at e; cases e
        | some q =>
          obtain ⟨w, l⟩ := q
          obtain ⟨h1, h2⟩ := stepOf_some e2
          exact ⟨w, l, h1, h2⟩
      · exact runS_st h x hx
theorem wrongS_ok {g st : D} (h : wrongS g st = .non) : ∃ gs xs r, g = .tup gs ∧ gs.all D.isIns = true ∧ st = .tup xs ∧ runS (gs.map shG) xs 0 = .inl r := by
  cases ha : areG g with
  | false =>
    rw [wrongS_no ha] at h
    cases h
  | true =>
    obtain ⟨gs, rfl, _, _, gi⟩ := areG_tup ha
    rw [wrongS_in ha] at h
    split at h
    · rename_i xs
      split at h
      · split at h
        · rename_i r e
          exact ⟨gs, xs, r, rfl, gi, rfl, e⟩
        · cases h
      · cases h
    · cases h
theorem ints_plain (l : List Int) : D.plains (l.map D.int) = true ∧ PyData.canLayAll0 (D.pys (l.map D.int)) = true ∧ PyData.depthAll (D.pys (l.map D.int)) = 0 := by
  induction l with
  | nil => simp [D.plains, D.pys, PyData.canLayAll0, PyData.depthAll]
  | cons i l ih => simp [D.plains, D.plain, D.pys, D.py, PyData.canLayAll0, PyData.canLay0, PyData.depthAll, PyData.depth, ih]
theorem steps_fine {xs : List D} (h : ∀ x ∈ xs, ∃ w l, x = stD w l ∧ kindLen.lookup w = some ((l.length : Int) + 1)) : (D.tup xs).fine = true := by
  have key : D.plains xs = true ∧ PyData.canLayAll0 (D.pys xs) = true ∧ PyData.depthAll (D.pys xs) ≤ 1 := by
    induction xs with
    | nil => simp [D.plains, D.pys, PyData.canLayAll0, PyData.depthAll]
    | cons y ys ih =>
      obtain ⟨w, l, rfl, hk⟩ := h y List.mem_cons_self
      have ih := ih fun x hx => h x (List.mem_cons_of_mem _ hx)
      have ip := ints_plain l
      have kf := kind_fine hk
      simp [D.fine, D.plain, D.py, SeqAt.shaped, PyData.canLay0, PyData.depth] at kf
      simp [stD, D.plains, D.plain, D.pys, D.py, PyData.canLayAll0, PyData.canLay0, PyData.depthAll, PyData.depth, ih, ip, kf]
  have := key.2.2
  simp [D.fine, D.plain, D.py, SeqAt.shaped, PyData.canLay0, PyData.depth, key.1, key.2.1]
  omega
end PD
namespace PD
open PySem PySem.SeqAt
open AutoSeq1 (wpAny_loadPart')
open MeetsSeq MeetsSeq2 MeetsSeq3 SeqRoads2
section
variable {prog : Program} {w : World} {A : Around} {R : Result → Shared → Prop}
/-- two tuples whose items are alike, pair by pair, aren't unlike -/
theorem tup_unlike (p q : Addr) (us ws : Array Value) (m k : Nat) (du dw : Option Addr) (zu zw : Array (Option Value)) (same : us.size = ws.size) (J : Nat → Shared → Prop)
    (pair : ∀ j (a : j < us.size) (c : j < ws.size) t, J j t → wpAny (model prog w) A.in1 (eqBool us[j] ws[j]) (fun yes t' => yes = true ∧ J (j + 1) t') (fun er t' => R (.error er) t') t)
    (last : ∀ t, J us.size t → R (.ok (.ret (.bool false))) t) {t : Shared} (atp : t.heap.get? p = some { cls := .type "tuple", dict := du, data := .seq us m, slots := zu }) (atq : t.heap.get? q = some { cls := .type "tuple", dict := dw, data := .seq ws k, slots := zw }) (start : J 0 t) :
    wpAny (model prog w) A.in1 (Builtin.«tuple.__ne__» ⟨[.ref p, .ref q], []⟩) (GQ.FinOf prog w A R) (fun er t' => R (.error er) t') t := by
  have both := AutoSeq1.sub_tuple_tuple
  have zl : (us.toList.zip ws.toList).length = us.size := by simp [same]
  have kept := start
  obtain ⟨heap, gens, dr, toks, os⟩ := t
  wp_walk using wpAny_loadPart' atp, wpAny_loadPart' atq, wpAny_forIn_list _ (fun left acc t' => acc.1 = none ∧ ∃ j, left = (us.toList.zip ws.toList).drop j ∧ j ≤ us.size ∧ J j t') _
  case turn =>
    rintro ⟨v, u⟩ left acc t' ⟨none_, j, el, le, hJ⟩
    have lt : j < (us.toList.zip ws.toList).length := by
      by_cases c : j < (us.toList.zip ws.toList).length
      · exact c
      · rw [List.drop_of_length_le (Nat.le_of_not_lt c)] at el
        cases el
    have l1 : j < us.size := zl ▸ lt
    have l2 : j < ws.size := same ▸ l1
    rw [List.drop_eq_getElem_cons lt] at el
    injection el with hd tl
    have ev : v = us[j] := by simpa using congrArg Prod.fst hd
    have eu : u = ws[j] := by simpa using congrArg Prod.snd hd
    subst ev eu
    refine wpAny_bind (wpAny_mono (pair j l1 l2 t' hJ) (fun yes t2 got => ?_) fun _ _ z => z)
    obtain ⟨rfl, got⟩ := got
    wp_walk
    exact ⟨rfl, j + 1, tl, l1, got⟩
  case fin =>
    rintro ⟨c1, c2⟩ t' ⟨none_, j, el, le, hJ⟩
    simp only at none_
    subst none_
    have ge : us.size ≤ j := by
      by_cases c : j < (us.toList.zip ws.toList).length
      · rw [List.drop_eq_getElem_cons c] at el
        cases el
      · omega
    obtain rfl : j = us.size := by omega
    have done := last t' hJ
    wp_walk
    simpa [Builtin.Tuple.tupleCompareSizes, same] using done
  case h =>
    exact ⟨rfl, 0, rfl, Nat.zero_le _, kept⟩
end
section
open PyProof.Rows L2
open PDX PDI PDT
/-- x != y of what D says to be alike -/
def rNeG (D : Eqv) : R2 := fun x y H Q => D x y H ∧ ∀ H', Ext H H' → Q (.bl false) H'
theorem op_neTup {X : Cx} {n : Nat} {D : Eqv} (hD : Mon D) (h : EqG X n D) (hr : Room (n + 1) X.A) : OpR X (compareOp .NotEq) (rNeG (DTup X.K D)) := by
  intro pins s σ H x y v u Q I rx ry wish
  obtain ⟨⟨a, b, xs, ys, rfl, rfl, ha, hb, pairs⟩, q⟩ := wish
  cases rx
  cases ry
  obtain ⟨us, r1, at1, _⟩ := I.tuple ha
  obtain ⟨ws, r2, at2, _⟩ := I.tuple hb
  have same : us.toArray.size = ws.toArray.size := by
    rw [List.size_toArray, List.size_toArray, ← r1.length, ← r2.length]
    exact pairs.1
  have sb : Sub X (n + 1) X.A := ⟨hr, rfl⟩
  obtain ⟨⟨c1, d1, t1, z1⟩, o1, e1, m1, f1⟩ := id at1
  obtain ⟨⟨c2, d2, t2, z2⟩, o2, e2, m2, f2⟩ := id at2
  simp only at e1 f1 e2 f2
  subst e1 f1 e2 f2
  show wpAny (model X.prog X.w) X.A (richCompare .NotEq (.ref a) (.ref b)) (EP X pins σ Q) X.xe s
  refine wpAny_richCompare_same_room (op := .NotEq) ⟨_, o1, rfl⟩ ⟨_, o2, rfl⟩ PySem.F.slot_tuple_ne (GQ.call_here PySem.F.slot_tuple_ne ⟨_, o1, rfl⟩ PySem.F.entry_tuple_ne (PySem.F.args_tuple_ne_2 _ _) ?_) sb.room.units0
  refine tup_unlike (R := PySem.wants (fun z s' => z ≠ .notImplemented ∧ EP X pins σ Q z s') X.xe) a b us.toArray ws.toArray m1 m2 d1 d2 z1 z2 same (fun _ s' => LoopI X pins σ H s') (fun i h1 h2 s' l => turnG hD h sb pairs r1 r2 i h1 h2 s' l) (fun s' l => ⟨(fun z => nomatch z), ?_⟩) o1 o2 ⟨H, I, Ext.rfl'⟩
  obtain ⟨H', I', e'⟩ := l
  exact ⟨.bl false, H', I', rfl, q H' e'⟩
theorem op_neGK {X : Cx} {K : PySem.W.Frag} {CX : CXT} {k : Nat} {C f : Addr} {fd : FuncData} {ps : List Str} {Fg : FD} {E : XK} (h : X.K = K) (T : EqT K C f) (F : FnOk X.prog X.w K X.mg X.base CX k f fd ps (spD K Fg)) (hr : Room (k + 1) X.A) (hb : Binds K fd ps []) (hx : Passes CX X E)
    (hF : ∀ n m xs n' m' xs', Grd n m xs → Grd n' m' xs' → eqG n xs (gd C n' xs') = true → Fg [gd C n xs, gd C n' xs'] fun d => d = .bl true) : OpR X (compareOp .NotEq) (rNeG (DTup K (DIns C (RG K C)))) := by
  subst h
  have F2 : FnOk X.prog X.w X.K X.mg X.base CX k f fd ps (spEq (RG X.K C)) := F.imp fun vs H Q E' q => by
    obtain ⟨a, b, rfl, ⟨n, m, xs, n', m', xs', g, g', r, r', e⟩, hq⟩ := q
    refine ⟨stillW X.K, fun _ => False, [gd C n xs, gd C n' xs'], fun d => d = .bl true, rfl, ⟨fun s z => (by cases z), fun a z => (by cases z), fun a z => z.elim⟩, .cons r (.cons r' .nil), hF n m xs n' m' xs' g g' e, fun v d H' _ kk rv hd => ?_⟩
    subst hd
    cases rv
    exact hq H' fun a o ho => kk a o (by intro z; cases z) ho
  exact op_neTup (mon_ins RG.mon) (eqG_ins F2 T.e T.fn hb hx) hr
theorem rd_neGs {W : Wd} {P : D → Prop} {C : Addr} {xs ys : List D} (hl : xs.length = ys.length) (h : ∀ (i : Nat) x y, xs[i]? = some x → ys[i]? = some y → ∃ n m zs n' m' zs', x = gd C n zs ∧ y = gd C n' zs' ∧ Grd n m zs ∧ Grd n' m' zs' ∧ eqG n zs (gd C n' zs') = true) (hP : P (.bl false)) :
    RD W (rNeG (DTup W.K (DIns C (RG W.K C)))) (.tup xs) (.tup ys) P := fun M H v u wf r1 r2 Q q => by
  have stay : ∀ H', Ext H H' → StOk W H' := fun H' e s hs => by
    obtain ⟨ns, i, c, m, a1, a2, a3, a4⟩ := wf.g s hs
    exact ⟨ns, i, c, m, e _ _ a1, a2, e _ _ a3, a4⟩
  exact ⟨(rd_eqGs (P := fun _ => True) hl h trivial M H v u wf r1 r2 (fun _ _ => True) fun _ _ _ _ _ _ _ => trivial).1, fun H' e => q _ _ H' (stay H' e) (fun a o _ ho => e a o ho) (.bl false) hP⟩
end
section
open PyProof.Rows L2
open PDX PDI PDT
theorem sl_listK {X : Cx} {K : PySem.W.Frag} (h : X.K = K) : SlR X (rSlL K) := by subst h; exact sl_list
end
/-- a script's object -/
abbrev scD (C : Addr) (g st : D) (r : List Sh) : D := .ins C ["grids", "steps", "shapes"] [g, st, .tup (r.map shD)]
/-- the least common multiple over grids -/
def stepG (k : Int) : D → Int
  | .ins _ _ [_, .tup xs] => ((Nat.lcm k.natAbs (botX xs).natAbs : Nat) : Int)
  | _ => k
def botG (gs : List D) : Int := gs.foldl stepG 1
theorem lc_lcm {m b : Int} (h : Lc m) (h2 : Lc b) : Lc ((Nat.lcm m.natAbs b.natAbs : Nat) : Int) := by
  obtain ⟨p1, d1⟩ := h
  obtain ⟨p2, d2⟩ := h2
  refine ⟨?_, ?_⟩
  · have := Nat.lcm_pos (show 0 < m.natAbs by omega) (show 0 < b.natAbs by omega)
    omega
  · have := Nat.lcm_dvd (Int.natAbs_dvd_natAbs.mpr d1) (Int.natAbs_dvd_natAbs.mpr d2)
    exact Int.ofNat_dvd.mpr (this : Nat.lcm m.natAbs b.natAbs ∣ 12)
theorem lc_botG {C : Addr} : ∀ {gs : List D} {k : Int}, Lc k → (∀ e ∈ gs, ∃ n m xs, e = gd C n xs ∧ Grd n m xs) → Lc (gs.foldl stepG k)
  | [], k, h, _ => h
  | x :: gs, k, h, hg => by
    obtain ⟨n, m, xs, rfl, g⟩ := hg x List.mem_cons_self
    exact lc_botG (gs := gs) (k := stepG k (gd C n xs)) (lc_lcm h g.lc) fun e he => hg e (List.mem_cons_of_mem _ he)
section
open PyProof.Rows L2
open PDX PDI PDT
end
section
open PyProof.Rows L2
open PDX PDI PDT
theorem runS_take : ∀ {xs : List D} {shs r : List Sh} {k : Nat} (f : Nat), runS shs xs k = .inl r → f ≤ xs.length → runS shs (xs.take f) k = .inl (r.take (shs.length + f)) ∧ r.length = shs.length + xs.length ∧ r.take shs.length = shs
  | [], shs, r, k, f, h, hf => by
    cases h
    have e : f = 0 := by simpa using hf
    subst e
    refine ⟨?_, by simp, by simp⟩
    show Sum.inl shs = _
    rw [Nat.add_zero, List.take_length]
  | x :: xs, shs, r, k, f, h, hf => by
    unfold runS at h
    cases e : madeD shs x with
    | none => rw [e] at h; cases h
    | some p =>
      rw [e] at h
      have lp : (shs ++ [p]).length = shs.length + 1 := by rw [List.length_append]; rfl
      have pre : ∀ q : List Sh, r.take (shs.length + 1) = shs ++ [p] → r.take shs.length = shs := fun _ hq => by
        have := congrArg (List.take shs.length) hq
        rw [List.take_take, Nat.min_eq_left (by omega)] at this
        rw [this]
        simp
      cases f with
      | zero =>
        obtain ⟨h1, h2, h3⟩ := runS_take (xs := xs) 0 h (Nat.zero_le _)
        rw [lp] at h2 h3
        refine ⟨?_, by rw [h2, List.length_cons]; omega, pre r h3⟩
        show Sum.inl shs = _
        rw [Nat.add_zero, pre r h3]
      | succ f =>
        obtain ⟨h1, h2, h3⟩ := runS_take (xs := xs) f h (by simpa using hf)
        rw [lp] at h1 h2 h3
        refine ⟨?_, by rw [h2, List.length_cons]; omega, pre r h3⟩
        rw [List.take_succ_cons]
        unfold runS
        rw [e]
        show runS (shs ++ [p]) (xs.take f) (k + 1) = _
        rw [h1, show shs.length + 1 + f = shs.length + (f + 1) from by omega]
theorem areG_good {C : Addr} {n : Int} {gs : List D} (l1 : 1 ≤ gs.length) (l6 : gs.length ≤ 6) (hg : ∀ e ∈ gs, ∃ xs, e = gd C n xs) : areG (.tup gs) = true := by
  show (decide (1 ≤ gs.length) && decide (gs.length ≤ 6) && gs.all D.isIns && gs.all (fun e => decide (basD e = basD (gs.headD .non)))) = true
  rw [decide_eq_true l1, decide_eq_true l6]
  obtain ⟨x, r, rfl⟩ : ∃ x r, gs = x :: r := by
    cases gs with
    | nil => simp at l1
    | cons a b => exact ⟨a, b, rfl⟩
  have a1 : (x :: r).all D.isIns = true := List.all_eq_true.mpr fun e he => by
    obtain ⟨xs, rfl⟩ := hg e he
    rfl
  have a2 : (x :: r).all (fun e => decide (basD e = basD ((x :: r).headD .non))) = true := List.all_eq_true.mpr fun e he => by
    obtain ⟨xs, rfl⟩ := hg e he
    obtain ⟨ys, ey⟩ := hg x List.mem_cons_self
    subst ey
    exact decide_eq_true rfl
  rw [a1, a2]
  rfl
theorem wrongS_good {C : Addr} {n : Int} {gs xs : List D} {r : List Sh} (l1 : 1 ≤ gs.length) (l6 : gs.length ≤ 6) (hg : ∀ e ∈ gs, ∃ xs, e = gd C n xs) (l16 : xs.length ≤ 16) (hr : runS (gs.map shG) xs 0 = .inl r) : wrongS (.tup gs) (.tup xs) = .non := by
  rw [wrongS_in (areG_good l1 l6 hg)]
  show (if xs.length ≤ 16 then _ else _) = _
  rw [if_pos l16, hr]
theorem ev_slL {W : Wd} {δ : DS} {P : D → Prop} {te : TE} {tl th : TO} (h : EvD W te δ fun x => ∃ xs, x = .lst xs ∧ EvO W tl δ fun lo => EvO W th δ fun hi => P (.lst (cutD xs lo hi))) : EvD W (tSl (rSlL W.K) te tl th) δ P := fun M σ H p Q q =>
  h M σ H p _ fun v x H1 g1 k1 r1 h1 => by
    obtain ⟨xs, rfl, h2⟩ := h1
    refine h2 M σ H1 (p.next g1 k1) _ fun lo H2 g2 k2 h3 => ?_
    refine h3 M σ H2 ((p.next g1 k1).next g2 k2) _ fun hi H3 g3 k3 hP => ?_
    have r3 := (r1.keep (p.next g1 k1).wf k2).keep ((p.next g1 k1).next g2 k2).wf k3
    have p3 := ((p.next g1 k1).next g2 k2).next g3 k3
    cases r3 with
    | @lst a vs _ n hs hr =>
      refine ⟨a, vs, rfl, .inl (.inl hs), fun l hl => ?_⟩
      have kk : Keep W H3 (upd H3 l (.lst (cutV vs lo hi))) := Keep.new hl
      have hc : Reps W M H3 (cutV vs lo hi) (cutD xs lo hi) := by
        unfold cutV cutD
        rw [hr.length]
        exact (hr.drop _).take _
      refine q _ (.lst (cutD xs lo hi)) _ (g3.new hl) (((k1.trans k2).trans k3).trans kk) (.lst (fun m => ?_) upd_same (hc.keep p3.wf kk)) hP
      obtain ⟨o, ho⟩ := p3.wf.dom l m
      rw [hl] at ho
      cases ho
end
end PD
namespace PD
/-! ### determinants of rows, as sums by signs, over rationals -/
/-- the sum over what stands in a list and what is left without it, with signs by turns -/
def ex {α : Type} (f : α → List α → Rat) : List α → Rat
  | [] => 0
  | c :: cs => f c cs - ex (fun d rest => f d (c :: rest)) cs
theorem ex_congr {α : Type} : ∀ {l : List α} {f g : α → List α → Rat}, (∀ x R, x ∈ l → R.length + 1 = l.length → (∀ y ∈ R, y ∈ l) → f x R = g x R) → ex f l = ex g l
  | [], _, _, _ => rfl
  | c :: cs, f, g, h => by
    show f c cs - _ = g c cs - _
    rw [h c cs List.mem_cons_self rfl (fun y hy => List.mem_cons_of_mem _ hy)]
    congr 1
    exact ex_congr fun x R hx hl hR => h x (c :: R) (List.mem_cons_of_mem _ hx) (by show R.length + 1 + 1 = cs.length + 1; rw [hl]) (fun y hy => by
      rcases List.mem_cons.mp hy with rfl | hy
      · exact List.mem_cons_self
      · exact List.mem_cons_of_mem _ (hR y hy))
theorem ex_lin {α : Type} (a b : Rat) : ∀ (l : List α) (f g : α → List α → Rat), ex (fun x R => a * f x R + b * g x R) l = a * ex f l + b * ex g l
  | [], _, _ => by show (0 : Rat) = a * 0 + b * 0; grind
  | c :: cs, f, g => by
    show a * f c cs + b * g c cs - ex (fun d R => a * f d (c :: R) + b * g d (c :: R)) cs = a * (f c cs - _) + b * (g c cs - _)
    rw [ex_lin a b cs (fun d R => f d (c :: R)) (fun d R => g d (c :: R))]
    grind
theorem ex_zero {α : Type} : ∀ {l : List α} {f : α → List α → Rat}, (∀ x R, x ∈ l → f x R = 0) → ex f l = 0
  | [], _, _ => rfl
  | c :: cs, f, h => by
    show f c cs - _ = 0
    rw [h c cs List.mem_cons_self, ex_zero fun x R hx => h x (c :: R) (List.mem_cons_of_mem _ hx)]
    grind
theorem ex_mul {α : Type} (a : Rat) (l : List α) (f : α → List α → Rat) : ex (fun x R => a * f x R) l = a * ex f l := by
  have h := ex_lin a 0 l f (fun _ _ => 0)
  have e : ex (fun x R => a * f x R + 0 * (fun _ _ => 0 : α → List α → Rat) x R) l = ex (fun x R => a * f x R) l := ex_congr fun x R _ _ _ => by grind
  rw [e] at h
  rw [h]
  grind
theorem ex_sub {α : Type} (l : List α) (f g : α → List α → Rat) : ex (fun x R => f x R - g x R) l = ex f l - ex g l := by
  have h := ex_lin 1 (-1) l f g
  have e : ex (fun x R => 1 * f x R + (-1) * g x R) l = ex (fun x R => f x R - g x R) l := ex_congr fun x R _ _ _ => by grind
  rw [e] at h
  rw [h]
  grind
theorem ex_swap {α β : Type} : ∀ (l : List α) (k : List β) (F : α → List α → β → List β → Rat), ex (fun x R => ex (fun y S => F x R y S) k) l = ex (fun y S => ex (fun x R => F x R y S) l) k
  | [], k, F => (ex_zero fun y S _ => rfl).symm
  | c :: cs, k, F => by
    show ex (fun y S => F c cs y S) k - ex (fun x R => ex (fun y S => F x (c :: R) y S) k) cs = ex (fun y S => F c cs y S - ex (fun x R => F x (c :: R) y S) cs) k
    rw [ex_sub, ex_swap cs k fun x R y S => F x (c :: R) y S]
/-- rows as functions of columns; the columns in order -/
def De : List (Nat → Rat) → List Nat → Rat
  | [], [] => 1
  | [], _ :: _ => 0
  | r :: T, cs => ex (fun c rest => r c * De T rest) cs
theorem De_cons (r : Nat → Rat) (T : List (Nat → Rat)) (cs : List Nat) : De (r :: T) cs = ex (fun c rest => r c * De T rest) cs := by
  rw [De]
/-- by the first column -/
theorem De_col : ∀ (rs : List (Nat → Rat)) (c : Nat) (cs : List Nat), De rs (c :: cs) = ex (fun r R => r c * De R cs) rs
  | [], c, cs => by rw [De]; rfl
  | r :: T, c, cs => by
    rw [De_cons]
    show r c * De T cs - ex (fun d rest => r d * De T (c :: rest)) cs = r c * De T cs - ex (fun t R => t c * De (r :: R) cs) T
    congr 1
    have e1 : ex (fun d rest => r d * De T (c :: rest)) cs = ex (fun d rest => ex (fun t R => r d * (t c * De R rest)) T) cs := ex_congr fun d rest _ _ _ => by
      rw [De_col T c rest, ex_mul]
    have e2 : ex (fun t R => t c * De (r :: R) cs) T = ex (fun t R => ex (fun d rest => r d * (t c * De R rest)) cs) T := ex_congr fun t R _ _ _ => by
      rw [De_cons, ← ex_mul]
      exact ex_congr fun d rest _ _ _ => by grind
    rw [e1, e2, ex_swap]
theorem De_swap (r s : Nat → Rat) : ∀ (cs : List Nat) (T : List (Nat → Rat)), De (r :: s :: T) cs = -De (s :: r :: T) cs
  | [], T => by rw [De_cons, De_cons]; show (0 : Rat) = -0; grind
  | c :: cs, T => by
    rw [De_col, De_col]
    show r c * De (s :: T) cs - (s c * De (r :: T) cs - ex (fun t R => t c * De (r :: s :: R) cs) T) = -(s c * De (r :: T) cs - (r c * De (s :: T) cs - ex (fun t R => t c * De (s :: r :: R) cs) T))
    have e : ex (fun t R => t c * De (r :: s :: R) cs) T = -1 * ex (fun t R => t c * De (s :: r :: R) cs) T := by
      rw [← ex_mul]
      exact ex_congr fun t R _ _ _ => by rw [De_swap r s cs R]; grind
    rw [e]
    grind
theorem De_move (r : Nat → Rat) : ∀ (A T : List (Nat → Rat)) (cs : List Nat), De (A ++ r :: T) cs = (-1) ^ A.length * De (r :: (A ++ T)) cs
  | [], T, cs => by
    show De (r :: T) cs = (-1) ^ 0 * De (r :: T) cs
    rw [Rat.pow_zero]; grind
  | a :: A, T, cs => by
    show De (a :: (A ++ r :: T)) cs = (-1) ^ (A.length + 1) * De (r :: a :: (A ++ T)) cs
    rw [De_swap, De_cons, De_cons a]
    have e : ex (fun c rest => a c * De (A ++ r :: T) rest) cs = (-1) ^ A.length * ex (fun c rest => a c * De (r :: (A ++ T)) rest) cs := by
      rw [← ex_mul]
      exact ex_congr fun c rest _ _ _ => by rw [De_move r A T rest]; grind
    rw [e, Rat.pow_succ]
    grind
theorem De_twice (p : Nat → Rat) (A T : List (Nat → Rat)) (cs : List Nat) : De (p :: (A ++ p :: T)) cs = 0 := by
  have h := De_move p (p :: A) T cs
  have h2 := De_swap p p cs (A ++ T)
  have h3 : De (p :: p :: (A ++ T)) cs = 0 := by grind
  have h4 : De (p :: (A ++ p :: T)) cs = (-1) ^ (p :: A).length * De (p :: p :: (A ++ T)) cs := h
  rw [h4, h3]
  grind
theorem De_row (a b : Rat) (x y : Nat → Rat) (T : List (Nat → Rat)) (cs : List Nat) : De ((fun c => a * x c + b * y c) :: T) cs = a * De (x :: T) cs + b * De (y :: T) cs := by
  rw [De_cons, De_cons, De_cons, ← ex_lin]
  exact ex_congr fun c rest _ _ _ => by grind
theorem De_rowA (a b : Rat) (x y : Nat → Rat) (A T : List (Nat → Rat)) (cs : List Nat) : De (A ++ (fun c => a * x c + b * y c) :: T) cs = a * De (A ++ x :: T) cs + b * De (A ++ y :: T) cs := by
  rw [De_move, De_move, De_move, De_row]
  grind
/-- a row without its part of the first one -/
def clr (p : Nat → Rat) (c0 : Nat) (x : Nat → Rat) : Nat → Rat := fun c => p c0 * x c + (-(x c0)) * p c
theorem De_clr (p : Nat → Rat) (c0 : Nat) : ∀ (T A : List (Nat → Rat)) (cs : List Nat), De (p :: (A ++ T.map (clr p c0))) cs = p c0 ^ T.length * De (p :: (A ++ T)) cs
  | [], A, cs => by
    show De (p :: (A ++ [])) cs = p c0 ^ 0 * De (p :: (A ++ [])) cs
    rw [Rat.pow_zero]; grind
  | t :: T, A, cs => by
    show De (p :: (A ++ (fun c => p c0 * t c + (-(t c0)) * p c) :: T.map (clr p c0))) cs = p c0 ^ (T.length + 1) * De (p :: (A ++ t :: T)) cs
    have h := De_rowA (p c0) (-(t c0)) t p (p :: A) (T.map (clr p c0)) cs
    have h1 : De ((p :: A) ++ p :: T.map (clr p c0)) cs = 0 := De_twice p A _ cs
    have h2 : De ((p :: A) ++ t :: T.map (clr p c0)) cs = p c0 ^ T.length * De (p :: (A ++ t :: T)) cs := by
      have h3 := De_clr p c0 T (A ++ [t]) cs
      rw [List.append_assoc, List.append_assoc] at h3
      exact h3
    have h4 : De (p :: (A ++ (fun c => p c0 * t c + (-(t c0)) * p c) :: T.map (clr p c0))) cs = p c0 * De ((p :: A) ++ t :: T.map (clr p c0)) cs + (-(t c0)) * De ((p :: A) ++ p :: T.map (clr p c0)) cs := h
    rw [h4, h1, h2, Rat.pow_succ]
    grind
theorem clr_zero (p : Nat → Rat) (c0 : Nat) (x : Nat → Rat) : clr p c0 x c0 = 0 := by
  show p c0 * x c0 + (-(x c0)) * p c0 = 0
  grind
theorem De_first {p : Nat → Rat} {T : List (Nat → Rat)} {c : Nat} {cs : List Nat} (h : ∀ t ∈ T, t c = 0) : De (p :: T) (c :: cs) = p c * De T cs := by
  rw [De_col]
  show p c * De T cs - ex (fun t R => t c * De (p :: R) cs) T = _
  rw [ex_zero fun t R ht => by rw [h t ht]; grind]
  grind
theorem De_none {T : List (Nat → Rat)} {c : Nat} {cs : List Nat} (h : ∀ t ∈ T, t c = 0) : De T (c :: cs) = 0 := by
  rw [De_col]
  exact ex_zero fun t R ht => by rw [h t ht]; grind
theorem rat_pow_ne {a : Rat} (h : a ≠ 0) : ∀ n : Nat, a ^ n ≠ 0
  | 0 => by rw [Rat.pow_zero]; decide
  | n + 1 => by
    rw [Rat.pow_succ]
    intro z
    rcases Rat.mul_eq_zero.mp z with z | z
    · exact rat_pow_ne h n z
    · exact h z
/-- all rows cleared by the first one: the determinant of the rest, but for powers of the first number -/
theorem De_chio {p : Nat → Rat} {T : List (Nat → Rat)} {c : Nat} {cs : List Nat} (ha : p c ≠ 0) (ht : T ≠ []) : De (T.map (clr p c)) cs = p c ^ (T.length - 1) * De (p :: T) (c :: cs) := by
  have h1 := De_clr p c T [] (c :: cs)
  have h2 : De (p :: T.map (clr p c)) (c :: cs) = p c * De (T.map (clr p c)) cs := De_first fun t ht => by
    obtain ⟨x, _, rfl⟩ := List.mem_map.mp ht
    exact clr_zero p c x
  have h3 : De (p :: T.map (clr p c)) (c :: cs) = p c ^ T.length * De (p :: T) (c :: cs) := h1
  have h4 : T.length = T.length - 1 + 1 := by
    cases T with
    | nil => exact absurd rfl ht
    | cons => rfl
  rw [h4, Rat.pow_succ] at h3
  have h5 : p c * De (T.map (clr p c)) cs = p c * (p c ^ (T.length - 1) * De (p :: T) (c :: cs)) := by rw [← h2, h3]; grind
  grind
/-- each row multiplied by one number -/
theorem De_scale (b : Rat) : ∀ (T : List (Nat → Rat)) (cs : List Nat), De (T.map fun x c => b * x c) cs = b ^ T.length * De T cs
  | [], cs => by show De [] cs = b ^ 0 * De [] cs; rw [Rat.pow_zero]; grind
  | t :: T, cs => by
    show De ((fun c => b * t c) :: T.map fun x c => b * x c) cs = b ^ (T.length + 1) * De (t :: T) cs
    rw [De_cons, De_cons, Rat.pow_succ]
    have e : ex (fun c rest => b * t c * De (T.map fun x c => b * x c) rest) cs = (b ^ T.length * b) * ex (fun c rest => t c * De T rest) cs := by
      rw [← ex_mul]
      exact ex_congr fun c rest _ _ _ => by rw [De_scale b T rest]; grind
    exact e
theorem De_congr : ∀ {T U : List (Nat → Rat)} {cs : List Nat}, T.length = U.length → (∀ (i : Nat) (x y : Nat → Rat), T[i]? = some x → U[i]? = some y → ∀ c ∈ cs, x c = y c) → De T cs = De U cs
  | [], [], cs, _, _ => rfl
  | [], _ :: _, _, h, _ => by simp at h
  | _ :: _, [], _, h, _ => by simp at h
  | t :: T, u :: U, cs, hl, h => by
    rw [De_cons, De_cons]
    exact ex_congr fun c rest hc _ hr => by
      rw [h 0 t u rfl rfl c hc]
      rw [De_congr (T := T) (U := U) (by simpa using hl) fun i x y hx hy d hd => h (i + 1) x y hx hy d (hr d hd)]
theorem ex_map {α β : Type} (g : α → β) : ∀ (l : List α) (f : β → List β → Rat), ex f (l.map g) = ex (fun x R => f (g x) (R.map g)) l
  | [], f => rfl
  | c :: cs, f => by
    show f (g c) (cs.map g) - ex (fun d rest => f d (g c :: rest)) (cs.map g) = _
    rw [ex_map g cs fun d rest => f d (g c :: rest)]
    rfl
/-- columns by other names -/
theorem De_cols (g : Nat → Nat) : ∀ (T : List (Nat → Rat)) (cs : List Nat), De T (cs.map g) = De (T.map fun x c => x (g c)) cs
  | [], [] => rfl
  | [], _ :: _ => by show De [] (_ :: _) = De [] (_ :: _); rw [De, De]
  | t :: T, cs => by
    show De (t :: T) (cs.map g) = De ((fun c => t (g c)) :: T.map fun x c => x (g c)) cs
    rw [De_cons, De_cons, ex_map]
    exact ex_congr fun c rest _ _ _ => by rw [De_cols g T rest]
/-- turned about -/
theorem De_turn (A : Nat → Nat → Rat) : ∀ (is cs : List Nat), is.length = cs.length → De (is.map A) cs = De (cs.map fun c i => A i c) is
  | [], [], _ => rfl
  | [], _ :: _, h => by simp at h
  | i :: is, cs, h => by
    show De (A i :: is.map A) cs = _
    rw [De_cons, De_col, ex_map]
    exact ex_congr fun c rest _ hl _ => by
      rw [De_turn A is rest (by simp at h; omega)]
end PD
namespace PD
/-! ### elimination without fractions -/
def fnR (l : List Int) : Nat → Rat := fun j => ((l.getD j 0 : Int) : Rat)
/-- a row behind a pivot's -/
def bstep (b : Int) (p r : List Int) : List Int := List.zipWith (fun x a => (p.getD 0 0 * x - r.getD 0 0 * a).fdiv b) r.tail p.tail
def DivB (b : Int) (m : Nat) (left : List (List Int)) : Prop := ∀ (rs : List (List Int)) (cs : List Nat), (∀ r ∈ rs, r ∈ left) → rs.length = cs.length → (∀ c ∈ cs, c < m) → ∃ z : Int, De (rs.map fnR) cs = (b : Rat) ^ (rs.length - 1) * (z : Rat)
theorem De_int : ∀ (rs : List (List Int)) (cs : List Nat), ∃ z : Int, De (rs.map fnR) cs = (z : Rat)
  | [], [] => ⟨1, by show De [] [] = _; rw [De]; rfl⟩
  | [], _ :: _ => ⟨0, by show De [] (_ :: _) = _; rw [De]; rfl⟩
  | r :: T, cs => by
    have h : ∀ (l : List Nat) (g : List Nat → List Nat), ∃ z : Int, ex (fun c rest => fnR r c * De (T.map fnR) (g rest)) l = (z : Rat) := by
      intro l
      induction l with
      | nil => exact fun g => ⟨0, rfl⟩
      | cons c l ih =>
        intro g
        obtain ⟨z, hz⟩ := ih (fun rest => g (c :: rest))
        obtain ⟨y, hy⟩ := De_int T (g l)
        refine ⟨r.getD c 0 * y - z, ?_⟩
        show fnR r c * De (T.map fnR) (g l) - ex (fun d rest => fnR r d * De (T.map fnR) (g (c :: rest))) l = _
        rw [hz, hy]
        show ((r.getD c 0 : Int) : Rat) * (y : Rat) - (z : Rat) = _
        rw [← Rat.intCast_mul, ← Rat.intCast_sub]
    obtain ⟨z, hz⟩ := h cs id
    exact ⟨z, by show De (fnR r :: T.map fnR) cs = _; rw [De_cons]; exact hz⟩
theorem divB_one (m : Nat) (left : List (List Int)) : DivB 1 m left := fun rs cs _ _ _ => by
  obtain ⟨z, hz⟩ := De_int rs cs
  refine ⟨z, ?_⟩
  have h1 : ∀ n : Nat, ((1 : Int) : Rat) ^ n = 1 := fun n => by
    induction n with
    | zero => rw [Rat.pow_zero]
    | succ n ih => rw [Rat.pow_succ, ih]; grind
  rw [hz, h1]
  grind
theorem De_two (p r : Nat → Rat) (c d : Nat) : De [p, r] [c, d] = p c * r d - r c * p d := by
  rw [De_cons]
  show p c * De [r] [d] - (p d * De [r] [c] - 0) = _
  have h : ∀ x, De [r] [x] = r x := fun x => by
    rw [De_cons]
    show r x * De [] [] - 0 = _
    rw [De]
    grind
  rw [h, h]
  grind
/-- a row of a square -/
def SqR (m : Nat) (left : List (List Int)) : Prop := left.length = m ∧ ∀ r ∈ left, r.length = m
theorem fdiv_of {a b z : Int} (hb : b ≠ 0) (h : a = b * z) : a.fdiv b = z := by
  subst h
  exact Int.mul_fdiv_cancel_left z hb
theorem bstep_len {b : Int} {p r : List Int} {m : Nat} (hp : p.length = m + 1) (hr : r.length = m + 1) : (bstep b p r).length = m := by
  unfold bstep
  rw [List.length_zipWith, List.length_tail, List.length_tail]
  omega
theorem bstep_at {b : Int} {p r : List Int} {m j : Nat} (hp : p.length = m + 1) (hr : r.length = m + 1) (hj : j < m) : (bstep b p r).getD j 0 = (p.getD 0 0 * r.getD (j + 1) 0 - r.getD 0 0 * p.getD (j + 1) 0).fdiv b := by
  unfold bstep
  rw [List.getD_eq_getElem?_getD, List.getElem?_zipWith, List.getElem?_tail, List.getElem?_tail]
  have h1 : r[j + 1]? = some (r.getD (j + 1) 0) := by
    rw [List.getD_eq_getElem?_getD, List.getElem?_eq_getElem (by omega)]
    rfl
  have h2 : p[j + 1]? = some (p.getD (j + 1) 0) := by
    rw [List.getD_eq_getElem?_getD, List.getElem?_eq_getElem (by omega)]
    rfl
  rw [h1, h2]
  rfl
/-- the division leaves no rest -/
theorem bstep_exact {b : Int} {m : Nat} {left : List (List Int)} (hb : b ≠ 0) (D : DivB b (m + 1) left) {p r : List Int} (hp : p ∈ left) (hr : r ∈ left) {j : Nat} (hj : j < m) :
    ∃ z : Int, p.getD 0 0 * r.getD (j + 1) 0 - r.getD 0 0 * p.getD (j + 1) 0 = b * z := by
  obtain ⟨z, hz⟩ := D [p, r] [0, j + 1] (fun x hx => by
    rcases List.mem_cons.mp hx with rfl | hx
    · exact hp
    · rw [List.mem_singleton.mp hx]; exact hr) rfl (fun c hc => by
    rcases List.mem_cons.mp hc with rfl | hc
    · omega
    · rw [List.mem_singleton.mp hc]; omega)
  refine ⟨z, ?_⟩
  have h : De [fnR p, fnR r] [0, j + 1] = (b : Rat) ^ 1 * (z : Rat) := hz
  rw [De_two, Rat.pow_succ, Rat.pow_zero, Rat.one_mul] at h
  have h2 : ((p.getD 0 0 * r.getD (j + 1) 0 - r.getD 0 0 * p.getD (j + 1) 0 : Int) : Rat) = ((b * z : Int) : Rat) := by
    rw [Rat.intCast_sub, Rat.intCast_mul, Rat.intCast_mul, Rat.intCast_mul]
    exact h
  exact Rat.intCast_inj.mp h2
theorem range_one (m : Nat) : 0 :: (List.range m).map (· + 1) = List.range (m + 1) := (List.range_succ_eq_map).symm
/-- minors behind a pivot -/
theorem bstep_minor {b : Int} {m : Nat} {left : List (List Int)} (hb : b ≠ 0) (hl : ∀ r ∈ left, r.length = m + 1) (D : DivB b (m + 1) left) {p : List Int} (hp : p ∈ left) (ha : p.getD 0 0 ≠ 0) {rs : List (List Int)} (hrs : ∀ r ∈ rs, r ∈ left) (hne : rs ≠ [])
    {cs : List Nat} (hcs : ∀ c ∈ cs, c < m) : (b : Rat) ^ rs.length * De ((rs.map (bstep b p)).map fnR) cs = ((p.getD 0 0 : Int) : Rat) ^ (rs.length - 1) * De (fnR p :: rs.map fnR) (0 :: cs.map (· + 1)) := by
  have ha2 : fnR p 0 ≠ 0 := fun z => ha (by
    have : ((p.getD 0 0 : Int) : Rat) = ((0 : Int) : Rat) := z
    exact Rat.intCast_inj.mp this)
  have h1 := De_chio (p := fnR p) (T := rs.map fnR) (c := 0) (cs := cs.map (· + 1)) ha2 (by simpa using hne)
  rw [List.length_map] at h1
  show _ = fnR p 0 ^ (rs.length - 1) * _
  rw [← h1, De_cols]
  have h2 := De_scale (b : Rat) ((rs.map (bstep b p)).map fnR) cs
  rw [List.length_map, List.length_map] at h2
  rw [← h2]
  refine De_congr (by simp) fun i x y hx hy c hc => ?_
  simp only [List.getElem?_map] at hx hy
  cases e : rs[i]? with
  | none => rw [e] at hx; cases hx
  | some r =>
    rw [e] at hx hy
    cases hx
    cases hy
    have hr := hrs r (List.mem_of_getElem? e)
    obtain ⟨z, hz⟩ := bstep_exact hb D hp hr (hcs c hc)
    show (b : Rat) * (((bstep b p r).getD c 0 : Int) : Rat) = clr (fnR p) 0 (fnR r) (c + 1)
    rw [bstep_at (hl p hp) (hl r hr) (hcs c hc), fdiv_of hb hz]
    show _ = ((p.getD 0 0 : Int) : Rat) * ((r.getD (c + 1) 0 : Int) : Rat) + (-((r.getD 0 0 : Int) : Rat)) * ((p.getD (c + 1) 0 : Int) : Rat)
    have h3 : ((p.getD 0 0 * r.getD (c + 1) 0 - r.getD 0 0 * p.getD (c + 1) 0 : Int) : Rat) = ((b * z : Int) : Rat) := by rw [hz]
    rw [Rat.intCast_sub, Rat.intCast_mul, Rat.intCast_mul, Rat.intCast_mul] at h3
    grind
/-- what the walk will tell -/
def BV (t : Int) (m : Nat) (left : List (List Int)) (b s : Int) : Prop := (m = 0 ∧ t = s * b) ∨ (1 ≤ m ∧ (t : Rat) * (b : Rat) ^ (m - 1) = (s : Rat) * De (left.map fnR) (List.range m))
structure BI (t : Int) (m : Nat) (left : List (List Int)) (b s : Int) : Prop where
  sq : SqR m left
  nz : b ≠ 0
  dv : DivB b m left
  v : BV t m left b s
theorem int_ne {b : Int} (h : b ≠ 0) : (b : Rat) ≠ 0 := fun z => h (by
  have : ((b : Int) : Rat) = ((0 : Int) : Rat) := z
  exact Rat.intCast_inj.mp this)
theorem BI.none {t : Int} {m : Nat} {left : List (List Int)} {b s : Int} (h : BI t (m + 1) left b s) (hz : ∀ r ∈ left, r.getD 0 0 = 0) : t = 0 := by
  rcases h.v with ⟨z, _⟩ | ⟨_, v⟩
  · omega
  · rw [← range_one, De_none (fun x hx => by
      obtain ⟨r, hr, rfl⟩ := List.mem_map.mp hx
      show ((r.getD 0 0 : Int) : Rat) = 0
      rw [hz r hr]
      rfl)] at v
    have hp := rat_pow_ne (int_ne h.nz) (m + 1 - 1)
    have h2 : (t : Rat) = ((0 : Int) : Rat) := by
      have : (t : Rat) * (b : Rat) ^ (m + 1 - 1) = 0 := by rw [v]; grind
      rcases Rat.mul_eq_zero.mp this with z | z
      · exact z
      · exact absurd z hp
    exact Rat.intCast_inj.mp h2
theorem BI.step {t : Int} {m : Nat} {A T : List (List Int)} {p : List Int} {b s : Int} (h : BI t (m + 1) (A ++ p :: T) b s) (ha : p.getD 0 0 ≠ 0) :
    BI t m ((A ++ T).map (bstep b p)) (p.getD 0 0) (if A.length % 2 = 1 then -s else s) := by
  have hp : p ∈ A ++ p :: T := by simp
  have ho : ∀ r ∈ A ++ T, r ∈ A ++ p :: T := fun r hr => by
    rcases List.mem_append.mp hr with hr | hr
    · exact List.mem_append_left _ hr
    · exact List.mem_append_right _ (List.mem_cons_of_mem _ hr)
  have hl := h.sq.1
  rw [List.length_append, List.length_cons] at hl
  have hlen : (A ++ T).length = m := by rw [List.length_append]; omega
  refine ⟨⟨by rw [List.length_map, hlen], fun r hr => ?_⟩, ha, fun rs' cs hrs hlc hcs => ?_, ?_⟩
  · obtain ⟨x, hx, rfl⟩ := List.mem_map.mp hr
    exact bstep_len (h.sq.2 p hp) (h.sq.2 x (ho x hx))
  · -- what divides the minors
    have : ∃ rs : List (List Int), rs' = rs.map (bstep b p) ∧ ∀ r ∈ rs, r ∈ A ++ T := by
      clear hlc
      induction rs' with
      | nil => exact ⟨[], rfl, fun r hr => by cases hr⟩
      | cons x xs ih =>
        obtain ⟨rs, e, hm⟩ := ih fun r hr => hrs r (List.mem_cons_of_mem _ hr)
        obtain ⟨y, hy, e2⟩ := List.mem_map.mp (hrs x List.mem_cons_self)
        exact ⟨y :: rs, by rw [e, ← e2]; rfl, fun r hr => by
          rcases List.mem_cons.mp hr with rfl | hr
          · exact hy
          · exact hm r hr⟩
    obtain ⟨rs, rfl, hm⟩ := this
    rw [List.length_map] at hlc ⊢
    by_cases hne : rs = []
    · subst hne
      have hc : cs = [] := List.eq_nil_of_length_eq_zero hlc.symm
      subst hc
      refine ⟨1, ?_⟩
      show De [] [] = (((p.getD 0 0 : Int)) : Rat) ^ (0 - 1) * ((1 : Int) : Rat)
      rw [De, Nat.zero_sub, Rat.pow_zero]
      show (1 : Rat) = 1 * 1
      grind
    · have h1 := bstep_minor h.nz h.sq.2 h.dv hp ha (fun r hr => ho r (hm r hr)) hne hcs
      obtain ⟨z, hz⟩ := h.dv (p :: rs) (0 :: cs.map (· + 1)) (fun r hr => by
        rcases List.mem_cons.mp hr with rfl | hr
        · exact hp
        · exact ho r (hm r hr)) (by simp [hlc]) (fun c hc => by
        rcases List.mem_cons.mp hc with rfl | hc
        · omega
        · obtain ⟨d, hd, rfl⟩ := List.mem_map.mp hc
          have := hcs d hd
          omega)
      refine ⟨z, ?_⟩
      have e : De (fnR p :: rs.map fnR) (0 :: cs.map (· + 1)) = (b : Rat) ^ rs.length * (z : Rat) := hz
      rw [e] at h1
      have hb := rat_pow_ne (int_ne h.nz) rs.length
      grind
  · -- the value
    have hs : ((if A.length % 2 = 1 then -s else s : Int) : Rat) = (-1) ^ A.length * (s : Rat) := by
      have hm1 : ∀ n : Nat, ((-1 : Rat)) ^ n = if n % 2 = 1 then -1 else 1 := fun n => by
        induction n with
        | zero => rw [Rat.pow_zero]; rfl
        | succ n ih =>
          rw [Rat.pow_succ, ih]
          by_cases hn : n % 2 = 1
          · rw [if_pos hn, if_neg (by omega)]; grind
          · rw [if_neg hn, if_pos (by omega)]; grind
      rw [hm1]
      split
      · rw [Rat.intCast_neg]; grind
      · grind
    have mv := De_move (fnR p) (A.map fnR) (T.map fnR) (List.range (m + 1))
    have mv2 : De ((A ++ p :: T).map fnR) (List.range (m + 1)) = (-1) ^ A.length * De (fnR p :: (A ++ T).map fnR) (List.range (m + 1)) := by
      rw [List.map_append, List.map_append, List.map_cons, mv, List.length_map]
    rcases h.v with ⟨z, _⟩ | ⟨_, v⟩
    · omega
    · rw [mv2] at v
      cases m with
      | zero =>
        refine .inl ⟨rfl, ?_⟩
        have hAT : A ++ T = [] := List.eq_nil_of_length_eq_zero hlen
        rw [hAT] at v
        have h1 : De (fnR p :: List.map fnR []) (List.range (0 + 1)) = fnR p 0 := by
          show De [fnR p] [0] = _
          rw [De_cons]
          show fnR p 0 * De [] [] - 0 = _
          rw [De]
          grind
        rw [h1, Nat.add_sub_cancel, Rat.pow_zero] at v
        have h2 : (t : Rat) = ((((if A.length % 2 = 1 then -s else s) * p.getD 0 0 : Int)) : Rat) := by
          rw [Rat.intCast_mul, hs]
          have : fnR p 0 = ((p.getD 0 0 : Int) : Rat) := rfl
          rw [this] at v
          grind
        exact Rat.intCast_inj.mp h2
      | succ m =>
        refine .inr ⟨by omega, ?_⟩
        have h1 := bstep_minor h.nz h.sq.2 h.dv hp ha ho (fun z => by rw [z] at hlen; cases hlen) (cs := List.range (m + 1)) (fun c hc => List.mem_range.mp hc)
        rw [range_one, hlen] at h1
        have hb := rat_pow_ne (int_ne h.nz) (m + 1)
        have e1 : m + 1 + 1 - 1 = m + 1 := by omega
        rw [e1] at v
        rw [hs]
        grind
theorem BI.start {n : Nat} {rows : List (List Int)} (h : SqR n rows) (h1 : 1 ≤ n) : ∃ t : Int, (t : Rat) = De (rows.map fnR) (List.range n) ∧ BI t n rows 1 1 := by
  obtain ⟨t, ht⟩ := De_int rows (List.range n)
  refine ⟨t, ht.symm, h, by decide, divB_one n rows, .inr ⟨h1, ?_⟩⟩
  have h2 : ∀ n : Nat, ((1 : Int) : Rat) ^ n = 1 := fun n => by
    induction n with
    | zero => rw [Rat.pow_zero]
    | succ n ih => rw [Rat.pow_succ, ih]; grind
  rw [h2, ht]
  show (t : Rat) * 1 = ((1 : Int) : Rat) * (t : Rat)
  grind
end PD
namespace PD
/-! ### the listing of all orders, by signs -/
def sumQ : List Rat → Rat
  | [] => 0
  | x :: xs => x + sumQ xs
theorem sumQ_append : ∀ (a b : List Rat), sumQ (a ++ b) = sumQ a + sumQ b
  | [], b => by show sumQ b = 0 + sumQ b; grind
  | x :: a, b => by show x + sumQ (a ++ b) = x + sumQ a + sumQ b; rw [sumQ_append a b]; grind
theorem sumQ_mul (k : Rat) : ∀ (l : List Rat), sumQ (l.map fun x => k * x) = k * sumQ l
  | [] => by show (0 : Rat) = k * 0; grind
  | x :: l => by show k * x + sumQ (l.map fun x => k * x) = k * (x + sumQ l); rw [sumQ_mul k l]; grind
theorem sumQ_flat {α β : Type} (g : α → List β) (f : β → Rat) : ∀ l : List α, sumQ ((l.flatMap g).map f) = sumQ (l.map fun x => sumQ ((g x).map f))
  | [] => rfl
  | x :: l => by
    rw [List.flatMap_cons, List.map_append, sumQ_append, sumQ_flat g f l]
    rfl
theorem sumQ_congr {α : Type} {f g : α → Rat} : ∀ {l : List α}, (∀ x ∈ l, f x = g x) → sumQ (l.map f) = sumQ (l.map g)
  | [], _ => rfl
  | x :: l, h => by
    show f x + sumQ (l.map f) = g x + sumQ (l.map g)
    rw [h x List.mem_cons_self, sumQ_congr fun y hy => h y (List.mem_cons_of_mem _ hy)]
def cntG (o : List Nat) (x : Nat) : Nat := (o.filter fun y => decide (x < y)).length
def cntL (o : List Nat) (x : Nat) : Nat := (o.filter fun y => decide (y < x)).length
def remL (n : Nat) (o : List Nat) : List Nat := (List.range n).filter fun x => !o.contains x
def extO (n : Nat) (e : List Nat × Int) : List (List Nat × Int) := (remL n e.1).map fun x => (e.1 ++ [x], e.2 * (1 - 2 * ((cntG e.1 x : Int) % 2)))
def ordO (n : Nat) : Nat → List (List Nat × Int)
  | 0 => [([], 1)]
  | t + 1 => (ordO n t).flatMap (extO n)
def sgN (k : Nat) : Rat := if k % 2 = 0 then 1 else -1
theorem sgN_add (a b : Nat) : sgN (a + b) = sgN a * sgN b := by
  unfold sgN
  by_cases ha : a % 2 = 0 <;> by_cases hb : b % 2 = 0
  · rw [if_pos ha, if_pos hb, if_pos (by omega)]; grind
  · rw [if_pos ha, if_neg hb, if_neg (by omega)]; grind
  · rw [if_neg ha, if_pos hb, if_neg (by omega)]; grind
  · rw [if_neg ha, if_neg hb, if_pos (by omega)]; grind
theorem sgN_even {a b : Nat} (h : a % 2 = b % 2) : sgN a = sgN b := by unfold sgN; rw [h]
/-- by signs of how many are less -/
theorem ex_sum : ∀ {l : List Nat} (f : Nat → List Nat → Rat), l.Pairwise (· < ·) → ex f l = sumQ (l.map fun c => sgN (cntL l c) * f c (l.filter fun y => decide (y ≠ c)))
  | [], _, _ => rfl
  | c :: cs, f, h => by
    rw [List.pairwise_cons] at h
    have ih := ex_sum (fun d rest => f d (c :: rest)) h.2
    show f c cs - ex (fun d rest => f d (c :: rest)) cs = sgN (cntL (c :: cs) c) * f c ((c :: cs).filter fun y => decide (y ≠ c)) + sumQ (cs.map _)
    rw [ih]
    have e1 : cntL (c :: cs) c = 0 := by
      unfold cntL
      rw [List.length_eq_zero_iff, List.filter_eq_nil_iff]
      intro y hy
      rcases List.mem_cons.mp hy with rfl | hy
      · simp
      · have := h.1 y hy
        simp
        omega
    have e2 : ((c :: cs).filter fun y => decide (y ≠ c)) = cs := by
      rw [List.filter_cons, if_neg (by simp)]
      rw [List.filter_eq_self]
      intro y hy
      have := h.1 y hy
      exact decide_eq_true (by omega)
    have e3 : sumQ (cs.map fun d => sgN (cntL (c :: cs) d) * f d ((c :: cs).filter fun y => decide (y ≠ d))) = sumQ (cs.map fun d => (-1) * (sgN (cntL cs d) * f d (c :: cs.filter fun y => decide (y ≠ d)))) := sumQ_congr fun d hd => by
      have hcd := h.1 d hd
      have a1 : cntL (c :: cs) d = 1 + cntL cs d := by
        unfold cntL
        rw [List.filter_cons, if_pos (decide_eq_true hcd), List.length_cons]
        omega
      have a2 : ((c :: cs).filter fun y => decide (y ≠ d)) = c :: cs.filter fun y => decide (y ≠ d) := by
        rw [List.filter_cons, if_pos (decide_eq_true (by omega))]
      rw [a1, a2, sgN_add]
      have : sgN 1 = -1 := rfl
      rw [this]
      grind
    rw [e1, e2, e3]
    have e4 : (cs.map fun d => (-1) * (sgN (cntL cs d) * f d (c :: cs.filter fun y => decide (y ≠ d)))) = ((cs.map fun d => sgN (cntL cs d) * f d (c :: cs.filter fun y => decide (y ≠ d))).map fun x => (-1) * x) := by
      rw [List.map_map]
      rfl
    rw [e4, sumQ_mul]
    have : sgN 0 = 1 := rfl
    rw [this]
    grind
theorem rem_sorted (n : Nat) (o : List Nat) : (remL n o).Pairwise (· < ·) := List.Pairwise.filter _ List.pairwise_lt_range
theorem rem_snoc (n : Nat) (o : List Nat) (x : Nat) : remL n (o ++ [x]) = (remL n o).filter fun y => decide (y ≠ x) := by
  unfold remL
  rw [List.filter_filter]
  congr 1
  funext y
  by_cases h1 : y ∈ o <;> by_cases h2 : y = x <;> simp [h1, h2]
theorem sum_out {l : List Nat} {x : Nat} (f : Nat → Nat) (hs : l.Pairwise (· < ·)) (hx : x ∈ l) : (l.map f).sum = f x + ((l.filter fun y => decide (y ≠ x)).map f).sum := by
  induction l with
  | nil => cases hx
  | cons c cs ih =>
    rw [List.pairwise_cons] at hs
    rcases List.mem_cons.mp hx with rfl | hx
    · have e2 : ((x :: cs).filter fun y => decide (y ≠ x)) = cs := by
        rw [List.filter_cons, if_neg (by simp), List.filter_eq_self]
        intro y hy
        have := hs.1 y hy
        exact decide_eq_true (by omega)
      rw [e2]
      simp
    · have := hs.1 x hx
      rw [List.filter_cons, if_pos (decide_eq_true (by omega))]
      have ih2 := ih hs.2 hx
      simp only [List.map_cons, List.sum_cons]
      omega
/-- what is used and what is left -/
def Us (n : Nat) (o : List Nat) : Prop := (∀ f : Nat → Nat, (o.map f).sum + ((remL n o).map f).sum = ((List.range n).map f).sum) ∧ ∀ x ∈ o, x < n
theorem us_nil (n : Nat) : Us n [] := ⟨fun f => by
  have : remL n [] = List.range n := by
    unfold remL
    rw [List.filter_eq_self]
    intro y _
    rfl
  rw [this]
  simp, fun x hx => by cases hx⟩
theorem us_snoc {n : Nat} {o : List Nat} {x : Nat} (h : Us n o) (hx : x ∈ remL n o) : Us n (o ++ [x]) := ⟨fun f => by
  rw [rem_snoc]
  have h1 := h.1 f
  have h2 := sum_out f (rem_sorted n o) hx
  simp only [List.map_append, List.map_cons, List.map_nil, List.sum_append, List.sum_cons, List.sum_nil]
  omega, fun y hy => by
  rcases List.mem_append.mp hy with hy | hy
  · exact h.2 y hy
  · rw [List.mem_singleton.mp hy]
    exact List.mem_range.mp (List.mem_filter.mp hx).1⟩
theorem cnt_sum (p : Nat → Bool) : ∀ l : List Nat, (l.filter p).length = (l.map fun y => if p y then 1 else 0).sum
  | [] => rfl
  | c :: cs => by
    rw [List.filter_cons]
    simp only [List.map_cons, List.sum_cons]
    rw [← cnt_sum p cs]
    by_cases h : p c
    · rw [if_pos h, if_pos h, List.length_cons]; omega
    · rw [if_neg h, if_neg h]; omega
theorem range_cnt {n c : Nat} (h : c ≤ n) : ((List.range n).map fun y => if decide (y < c) then 1 else 0).sum = c := by
  induction n generalizing c with
  | zero =>
    have : c = 0 := by omega
    subst this
    rfl
  | succ n ih =>
    rw [List.range_succ]
    simp only [List.map_append, List.map_cons, List.map_nil, List.sum_append, List.sum_cons, List.sum_nil]
    by_cases hc : c ≤ n
    · rw [ih hc, if_neg (by simp; omega)]
      omega
    · have e : c = n + 1 := by omega
      subst e
      rw [if_pos (by simp)]
      have : (List.range n).map (fun y => if decide (y < n + 1) then 1 else 0) = (List.range n).map (fun y => if decide (y < n) then 1 else 0) := List.map_congr_left fun y hy => by
        have := List.mem_range.mp hy
        rw [if_pos (decide_eq_true (by omega)), if_pos (decide_eq_true this)]
      rw [this, ih (Nat.le_refl n)]
      omega
theorem us_cnt {n : Nat} {o : List Nat} (h : Us n o) {c : Nat} (hc : c ≤ n) : cntL o c + cntL (remL n o) c = c := by
  have := h.1 fun y => if decide (y < c) then 1 else 0
  rw [range_cnt hc] at this
  unfold cntL
  rw [cnt_sum, cnt_sum]
  exact this
theorem us_len {n : Nat} {o : List Nat} (h : Us n o) : o.length + (remL n o).length = n := by
  have h1 := h.1 fun _ => 1
  have e : ∀ l : List Nat, (l.map fun _ => 1).sum = l.length := fun l => by
    induction l with
    | nil => rfl
    | cons c cs ih => simp only [List.map_cons, List.sum_cons, List.length_cons]; omega
  rw [e, e, e, List.length_range] at h1
  exact h1
theorem cnt_both {o : List Nat} {x : Nat} (hx : x ∉ o) : cntG o x + cntL o x = o.length := by
  unfold cntG cntL
  induction o with
  | nil => rfl
  | cons c cs ih =>
    have h1 : x ≠ c := fun e => hx (by rw [e]; exact List.mem_cons_self)
    have ih2 := ih fun m => hx (List.mem_cons_of_mem _ m)
    rw [List.filter_cons, List.filter_cons]
    by_cases h : x < c
    · rw [if_pos (decide_eq_true h), if_neg (by simp; omega), List.length_cons, List.length_cons]
      omega
    · rw [if_neg (by simp; omega), if_pos (decide_eq_true (by omega)), List.length_cons, List.length_cons]
      omega
def triN : Nat → Nat
  | 0 => 0
  | n + 1 => triN n + n
theorem range_sum : ∀ n : Nat, (List.range n).sum = triN n
  | 0 => rfl
  | n + 1 => by
    rw [List.range_succ, List.sum_append, range_sum n]
    simp [triN]
def prodQ : List (Nat → Rat) → List Nat → Rat
  | r :: R, x :: o => r x * prodQ R o
  | _, _ => 1
theorem prodQ_snoc : ∀ {R : List (Nat → Rat)} {o : List Nat} {r : Nat → Rat} (x : Nat), R[o.length]? = some r → prodQ R (o ++ [x]) = prodQ R o * r x
  | [], _, _, _, h => by simp at h
  | r0 :: R, [], r, x, h => by
    have e : r0 = r := by simpa using h
    subst e
    show r0 x * prodQ R [] = prodQ (r0 :: R) [] * r0 x
    have e1 : prodQ R [] = 1 := by cases R <;> rfl
    have e2 : prodQ (r0 :: R) [] = 1 := rfl
    rw [e1, e2]
    grind
  | r0 :: R, y :: o, r, x, h => by
    show r0 y * prodQ R (o ++ [x]) = r0 y * prodQ R o * r x
    rw [prodQ_snoc x (R := R) (o := o) (r := r) (by simpa using h)]
    grind
theorem ord_ok (n : Nat) : ∀ t, ∀ e ∈ ordO n t, e.1.length = t ∧ Us n e.1 ∧ (e.2 = 1 ∨ e.2 = -1)
  | 0, e, h => by
    have : e = ([], 1) := List.mem_singleton.mp h
    subst this
    exact ⟨rfl, us_nil n, .inl rfl⟩
  | t + 1, e, h => by
    obtain ⟨a, ha, he⟩ := List.mem_flatMap.mp h
    obtain ⟨x, hx, rfl⟩ := List.mem_map.mp he
    obtain ⟨h1, h2, h3⟩ := ord_ok n t a ha
    refine ⟨by rw [List.length_append, h1]; rfl, us_snoc h2 hx, ?_⟩
    show a.2 * (1 - 2 * ((cntG a.1 x : Int) % 2)) = 1 ∨ a.2 * (1 - 2 * ((cntG a.1 x : Int) % 2)) = -1
    have : (cntG a.1 x : Int) % 2 = 0 ∨ (cntG a.1 x : Int) % 2 = 1 := by omega
    rcases h3 with h3 | h3 <;> rcases this with z | z <;> rw [h3, z] <;> decide
theorem ord_sum {n : Nat} {R : List (Nat → Rat)} (hR : R.length = n) : ∀ t, t ≤ n → De R (List.range n) = sumQ ((ordO n t).map fun e => (e.2 : Rat) * sgN (e.1.sum + triN t) * prodQ R e.1 * De (R.drop t) (remL n e.1))
  | 0, _ => by
    show _ = ((1 : Int) : Rat) * sgN 0 * prodQ R [] * De R (remL n []) + 0
    have e1 : prodQ R [] = 1 := by cases R <;> rfl
    have e2 : remL n [] = List.range n := by
      unfold remL
      rw [List.filter_eq_self]
      intro y _
      rfl
    have e3 : sgN 0 = 1 := rfl
    rw [e1, e2, e3]
    have : ((1 : Int) : Rat) = 1 := rfl
    rw [this]
    grind
  | t + 1, ht => by
    rw [ord_sum hR t (by omega)]
    show _ = sumQ (((ordO n t).flatMap (extO n)).map _)
    rw [sumQ_flat]
    refine sumQ_congr fun e he => ?_
    obtain ⟨hl, hu, _⟩ := ord_ok n t e he
    have hr : R[t]? = some (R[t]'(by omega)) := List.getElem?_eq_getElem (by omega)
    have hd : R.drop t = R[t]'(by omega) :: R.drop (t + 1) := List.drop_eq_getElem_cons (by omega)
    generalize R[t]'(by omega) = r at hr hd
    rw [hd, De_cons, ex_sum _ (rem_sorted n e.1), ← sumQ_mul, List.map_map]
    show sumQ ((remL n e.1).map _) = sumQ (((remL n e.1).map _).map _)
    rw [List.map_map]
    refine sumQ_congr fun x hx => ?_
    show (e.2 : Rat) * sgN (e.1.sum + triN t) * prodQ R e.1 * (sgN (cntL (remL n e.1) x) * (r x * De (R.drop (t + 1)) ((remL n e.1).filter fun y => decide (y ≠ x)))) = ((e.2 * (1 - 2 * ((cntG e.1 x : Int) % 2)) : Int) : Rat) * sgN ((e.1 ++ [x]).sum + triN (t + 1)) * prodQ R (e.1 ++ [x]) * De (R.drop (t + 1)) (remL n (e.1 ++ [x]))
    rw [rem_snoc, prodQ_snoc x (by rw [hl]; exact hr), Rat.intCast_mul]
    have hxn : x < n := List.mem_range.mp (List.mem_filter.mp hx).1
    have hxo : x ∉ e.1 := fun m => by
      have := (List.mem_filter.mp hx).2
      simp [m] at this
    have c1 := us_cnt hu (Nat.le_of_lt hxn)
    have c2 := cnt_both hxo
    have e1 : ((1 - 2 * ((cntG e.1 x : Int) % 2) : Int) : Rat) = sgN (cntG e.1 x) := by
      unfold sgN
      by_cases hz : cntG e.1 x % 2 = 0
      · rw [if_pos hz]
        have : (cntG e.1 x : Int) % 2 = 0 := by omega
        rw [this]
        rfl
      · rw [if_neg hz]
        have : (cntG e.1 x : Int) % 2 = 1 := by omega
        rw [this]
        rfl
    have e2 : sgN (cntG e.1 x) * sgN ((e.1 ++ [x]).sum + triN (t + 1)) = sgN (e.1.sum + triN t) * sgN (cntL (remL n e.1) x) := by
      rw [← sgN_add, ← sgN_add]
      apply sgN_even
      rw [List.sum_append]
      have : ([x] : List Nat).sum = x := by simp
      rw [this]
      show (cntG e.1 x + (e.1.sum + x + (triN t + t))) % 2 = (e.1.sum + triN t + cntL (remL n e.1) x) % 2
      omega
    rw [e1]
    grind
theorem due_sum {n : Nat} {R : List (Nat → Rat)} (hR : R.length = n) : sumQ ((ordO n n).map fun e => (e.2 : Rat) * prodQ R e.1) = De R (List.range n) := by
  rw [ord_sum hR n (Nat.le_refl n)]
  refine sumQ_congr fun e he => ?_
  obtain ⟨hl, hu, _⟩ := ord_ok n n e he
  have h1 := us_len hu
  have h2 : remL n e.1 = [] := List.eq_nil_of_length_eq_zero (by omega)
  have h3 := hu.1 id
  rw [h2, List.map_id, List.map_id, List.map_id] at h3
  have h4 : e.1.sum = triN n := by
    rw [range_sum] at h3
    simpa using h3
  rw [h2, h4, List.drop_eq_nil_of_le (by omega)]
  have h5 : De [] [] = 1 := by rw [De]
  have h6 : sgN (triN n + triN n) = 1 := by
    unfold sgN
    rw [if_pos (by omega)]
  rw [h5, h6]
  grind
end PD
namespace PD
/-! ### elimination above and below, without fractions -/
theorem De_perm {l k : List (Nat → Rat)} (h : l.Perm k) : ∃ s : Rat, (s = 1 ∨ s = -1) ∧ ∀ cs, De l cs = s * De k cs := by
  induction h with
  | nil => exact ⟨1, .inl rfl, fun cs => by grind⟩
  | cons x _ ih =>
    obtain ⟨s, hs, h⟩ := ih
    refine ⟨s, hs, fun cs => ?_⟩
    rw [De_cons, De_cons, ← ex_mul]
    exact ex_congr fun c rest _ _ _ => by rw [h rest]; grind
  | swap x y l => exact ⟨-1, .inr rfl, fun cs => by rw [De_swap]; grind⟩
  | trans _ _ ih1 ih2 =>
    obtain ⟨s, hs, h⟩ := ih1
    obtain ⟨t, ht, g⟩ := ih2
    refine ⟨s * t, ?_, fun cs => by rw [h, g]; grind⟩
    rcases hs with rfl | rfl <;> rcases ht with rfl | rfl <;> first | (left; grind) | (right; grind)
theorem De_block {b : Rat} {X : Nat → Nat → Rat} : ∀ (L T : List Nat) (ds : List Nat), L.Nodup → (∀ l ∈ L, l ∉ T) → (∀ l ∈ L, X l l = b) → (∀ l ∈ L, ∀ i ∈ L ++ T, i ≠ l → X i l = 0) →
    De ((L ++ T).map X) (L ++ ds) = b ^ L.length * De (T.map X) ds
  | [], T, ds, _, _, _, _ => by
    show De (T.map X) ds = b ^ 0 * De (T.map X) ds
    rw [Rat.pow_zero]
    grind
  | l :: L, T, ds, hn, ht, hd, hz => by
    rw [List.nodup_cons] at hn
    show De (X l :: (L ++ T).map X) (l :: (L ++ ds)) = b ^ (L.length + 1) * De (T.map X) ds
    rw [De_first (fun t h => by
      obtain ⟨i, hi, rfl⟩ := List.mem_map.mp h
      refine hz l List.mem_cons_self i (List.mem_cons_of_mem _ hi) fun e => ?_
      subst e
      rcases List.mem_append.mp hi with hi | hi
      · exact hn.1 hi
      · exact ht i List.mem_cons_self hi), hd l List.mem_cons_self,
      De_block L T ds hn.2 (fun l hl => ht l (List.mem_cons_of_mem _ hl)) (fun l hl => hd l (List.mem_cons_of_mem _ hl)) (fun l hl i hi => hz l (List.mem_cons_of_mem _ hl) i (by
        rw [List.cons_append]
        exact List.mem_cons_of_mem _ hi)), Rat.pow_succ]
    grind
theorem De_scaleT (b : Rat) (q : Nat → Rat) (T : List (Nat → Rat)) (cs : List Nat) : De (q :: T.map fun x c => b * x c) cs = b ^ T.length * De (q :: T) cs := by
  rw [De_cons, De_cons, ← ex_mul]
  exact ex_congr fun c rest _ _ _ => by rw [De_scale]; grind
/-- a row cleared by the k-th one, divided -/
def jstep (b : Rat) (k : Nat) (X : Nat → Nat → Rat) : Nat → Nat → Rat := fun i => if i = k then X k else fun c => (1 / b) * clr (X k) k (X i) c
/-- what is known of the minors -/
def JMin (n k : Nat) (b : Rat) (X A : Nat → Nat → Rat) : Prop := ∀ (U : List Nat) (cs : List Nat), U.Nodup → (∀ i, i < k → i ∈ U) → (∀ i ∈ U, i < n) → b * De (U.map X) cs = b ^ U.length * De (U.map A) cs
theorem JMin.start (n : Nat) (A : Nat → Nat → Rat) : JMin n 0 1 A A := fun U cs _ _ _ => by
  have h : ∀ m : Nat, (1 : Rat) ^ m = 1 := fun m => by
    induction m with
    | zero => rw [Rat.pow_zero]
    | succ m ih => rw [Rat.pow_succ, ih]; grind
  rw [h]
theorem JMin.step {n k : Nat} {b : Rat} {X A : Nat → Nat → Rat} (h : JMin n k b X A) (hk : k < n) (hb : b ≠ 0) (hp : X k k ≠ 0) : JMin n (k + 1) (X k k) (jstep b k X) A := fun U cs hn hi hu => by
  have hkU : k ∈ U := hi k (Nat.lt_succ_self k)
  obtain ⟨U1, U2, rfl⟩ := List.append_of_mem hkU
  have hI := h (U1 ++ k :: U2) cs hn (fun i h => hi i (by omega)) hu
  have nk1 : ∀ i ∈ U1 ++ U2, i ≠ k := fun i hm e => by
    subst e
    have := List.nodup_append.mp hn
    rcases List.mem_append.mp hm with hm | hm
    · exact this.2.2 i hm i List.mem_cons_self rfl
    · exact (List.nodup_cons.mp this.2.1).1 hm
  have e1 : De ((U1 ++ k :: U2).map (jstep b k X)) cs = (-1) ^ U1.length * De (X k :: (U1 ++ U2).map (jstep b k X)) cs := by
    rw [List.map_append, List.map_cons, De_move, List.length_map, ← List.map_append]
    have : jstep b k X k = X k := by unfold jstep; rw [if_pos rfl]
    rw [this]
  have e2 : De ((U1 ++ k :: U2).map X) cs = (-1) ^ U1.length * De (X k :: (U1 ++ U2).map X) cs := by
    rw [List.map_append, List.map_cons, De_move, List.length_map, ← List.map_append]
  have e3 : (U1 ++ U2).map (jstep b k X) = (((U1 ++ U2).map X).map (clr (X k) k)).map fun x c => (1 / b) * x c := by
    rw [List.map_map, List.map_map]
    refine List.map_congr_left fun i hi => ?_
    unfold jstep
    rw [if_neg (nk1 i hi)]
    rfl
  have e4 := De_clr (X k) k ((U1 ++ U2).map X) [] cs
  rw [List.nil_append, List.nil_append, List.length_map] at e4
  have e5 : De (X k :: (U1 ++ U2).map (jstep b k X)) cs = (1 / b) ^ (U1 ++ U2).length * (X k k ^ (U1 ++ U2).length * De (X k :: (U1 ++ U2).map X) cs) := by
    rw [e3, De_scaleT, e4, List.length_map, List.length_map]
  have hbm := rat_pow_ne hb (U1 ++ U2).length
  have hinv : b ^ (U1 ++ U2).length * (1 / b) ^ (U1 ++ U2).length = 1 := by
    have : ∀ m : Nat, b ^ m * (1 / b) ^ m = 1 := fun m => by
      induction m with
      | zero => rw [Rat.pow_zero, Rat.pow_zero]; grind
      | succ m ih =>
        rw [Rat.pow_succ, Rat.pow_succ]
        have h1 : b * (1 / b) = 1 := by grind
        grind
    exact this _
  have el : (U1 ++ k :: U2).length = (U1 ++ U2).length + 1 := by
    rw [List.length_append, List.length_append, List.length_cons]
    omega
  rw [el] at hI ⊢
  rw [Rat.pow_succ] at hI ⊢
  rw [e1, e5]
  rw [e2] at hI
  generalize (-1 : Rat) ^ U1.length = sg at hI ⊢
  generalize De (X k :: (U1 ++ U2).map X) cs = dx at hI ⊢
  generalize De ((U1 ++ k :: U2).map A) cs = da at hI ⊢
  generalize b ^ (U1 ++ U2).length = bm at hI hbm hinv ⊢
  generalize (1 / b) ^ (U1 ++ U2).length = im at hinv ⊢
  generalize X k k ^ (U1 ++ U2).length = pm
  generalize X k k = p
  -- b * (sg * dx) = bm * b * da, bm * im = 1
  have h1 : sg * dx = bm * da := by grind
  grind
/-- each number is an integer if those at the beginning are -/
theorem JMin.whole {n k : Nat} {b : Rat} {X A : Nat → Nat → Rat} (h : JMin n k b X A) (hk : k ≤ n) (hb : b ≠ 0) (hd : ∀ i c, i < n → c < k → X i c = if i = c then b else 0) {i : Nat} (hi : i < n) (j : Nat) :
    X i j = De (((List.range k).filter (fun y => decide (y ≠ i)) ++ [i]).map A) ((List.range k).filter (fun y => decide (y ≠ i)) ++ [j]) := by
  have hL : ∀ y ∈ (List.range k).filter (fun y => decide (y ≠ i)), y < k ∧ y ≠ i := fun y hy => by
    obtain ⟨a, b⟩ := List.mem_filter.mp hy
    exact ⟨List.mem_range.mp a, of_decide_eq_true b⟩
  have hnd : ((List.range k).filter (fun y => decide (y ≠ i))).Nodup := List.Pairwise.filter _ List.nodup_range
  have e := h ((List.range k).filter (fun y => decide (y ≠ i)) ++ [i]) ((List.range k).filter (fun y => decide (y ≠ i)) ++ [j]) (by
    rw [List.nodup_append]
    refine ⟨hnd, by simp, fun a ha c hc e => ?_⟩
    rw [List.mem_singleton.mp hc] at e
    exact (hL a ha).2 e) (fun c hc => by
    by_cases e : c = i
    · rw [e]; simp
    · exact List.mem_append_left _ (List.mem_filter.mpr ⟨List.mem_range.mpr hc, decide_eq_true e⟩)) (fun c hc => by
    rcases List.mem_append.mp hc with hc | hc
    · have := (hL c hc).1; omega
    · rw [List.mem_singleton.mp hc]; exact hi)
  have bl := De_block (b := b) (X := X) ((List.range k).filter (fun y => decide (y ≠ i))) [i] [j] hnd (fun l hl hm => (hL l hl).2 (List.mem_singleton.mp hm)) (fun l hl => by
    have := (hL l hl).1
    rw [hd l l (by omega) this, if_pos rfl]) (fun l hl y hy hne => by
    have := (hL l hl).1
    have hy2 : y < n := by
      rcases List.mem_append.mp hy with hy | hy
      · have := (hL y hy).1; omega
      · rw [List.mem_singleton.mp hy]; exact hi
    rw [hd y l hy2 this, if_neg hne])
  have one : De ([i].map X) [j] = X i j := by
    show De [X i] [j] = X i j
    rw [De_cons]
    show X i j * De [] [] - 0 = X i j
    rw [De]
    grind
  rw [bl, one] at e
  rw [List.length_append, List.length_singleton, Rat.pow_succ] at e
  have hbm := rat_pow_ne hb ((List.range k).filter (fun y => decide (y ≠ i))).length
  grind
/-- the determinant at the end, and where there is no pivot -/
theorem JMin.det {n k : Nat} {b : Rat} {X A : Nat → Nat → Rat} (h : JMin n k b X A) (hk : k ≤ n) (hb : b ≠ 0) (hd : ∀ i c, i < n → c < k → X i c = if i = c then b else 0) :
    b * (b ^ k * De (((List.range n).drop k).map X) ((List.range n).drop k)) = b ^ n * De ((List.range n).map A) (List.range n) := by
  have e := h (List.range n) (List.range n) List.nodup_range (fun i hi => List.mem_range.mpr (by omega)) (fun i hi => List.mem_range.mp hi)
  have sp : List.range n = List.range k ++ (List.range n).drop k := by
    have h1 := List.take_append_drop k (List.range n)
    rw [List.take_range, Nat.min_eq_left hk] at h1
    exact h1.symm
  have hdr : ∀ y ∈ (List.range n).drop k, k ≤ y ∧ y < n := fun y hy => by
    rw [List.mem_drop_iff_getElem] at hy
    obtain ⟨i, hi, e⟩ := hy
    rw [List.getElem_range] at e
    rw [List.length_range] at hi
    omega
  have bl := De_block (b := b) (X := X) (List.range k) ((List.range n).drop k) ((List.range n).drop k) List.nodup_range (fun l hl hm => by
    have := List.mem_range.mp hl
    have := hdr l hm
    omega) (fun l hl => by
    have := List.mem_range.mp hl
    rw [hd l l (by omega) this, if_pos rfl]) (fun l hl y hy hne => by
    have := List.mem_range.mp hl
    have hy2 : y < n := by
      rcases List.mem_append.mp hy with hy | hy
      · have := List.mem_range.mp hy; omega
      · exact (hdr y hy).2
    rw [hd y l hy2 this, if_neg hne])
  rw [← sp, List.length_range] at bl
  rw [bl, List.length_range] at e
  exact e
/-! ### sums of products -/
def dotQ : Nat → (Nat → Rat) → (Nat → Rat) → Rat
  | 0, _, _ => 0
  | n + 1, x, y => dotQ n x y + x n * y n
theorem dotQ_lin (a b : Rat) (x x' y : Nat → Rat) : ∀ n, dotQ n (fun c => a * x c + b * x' c) y = a * dotQ n x y + b * dotQ n x' y
  | 0 => by show (0 : Rat) = a * 0 + b * 0; grind
  | n + 1 => by
    show dotQ n _ y + (a * x n + b * x' n) * y n = a * (dotQ n x y + x n * y n) + b * (dotQ n x' y + x' n * y n)
    rw [dotQ_lin a b x x' y n]
    grind
theorem dotQ_congr {x x' y y' : Nat → Rat} : ∀ {n}, (∀ c, c < n → x c * y c = x' c * y' c) → dotQ n x y = dotQ n x' y'
  | 0, _ => rfl
  | n + 1, h => by
    show dotQ n x y + x n * y n = dotQ n x' y' + x' n * y' n
    rw [dotQ_congr fun c hc => h c (by omega), h n (by omega)]
theorem dotQ_one {x : Nat → Rat} {y : Nat → Rat} {i : Nat} : ∀ {n}, i < n → (∀ c, c < n → c ≠ i → x c * y c = 0) → dotQ n x y = x i * y i
  | 0, h, _ => by omega
  | n + 1, h, hz => by
    show dotQ n x y + x n * y n = _
    by_cases e : i = n
    · subst e
      have : dotQ i x y = 0 := by
        have h2 : dotQ i x y = dotQ i (fun _ => 0) y := dotQ_congr fun c hc => by rw [hz c (by omega) (by omega)]; grind
        have h3 : ∀ m, dotQ m (fun _ => 0) y = 0 := fun m => by
          induction m with
          | zero => rfl
          | succ m ih => show dotQ m (fun _ => 0) y + 0 * y m = 0; rw [ih]; grind
        rw [h2, h3]
      rw [this]
      grind
    · rw [dotQ_one (i := i) (by omega) fun c hc => hz c (by omega), hz n (by omega) (by omega)]
      grind
theorem dotQ_add (x y : Nat → Rat) (n : Nat) : ∀ m, dotQ (n + m) x y = dotQ n x y + dotQ m (fun c => x (n + c)) (fun c => y (n + c))
  | 0 => by show dotQ n x y = dotQ n x y + 0; grind
  | m + 1 => by
    show dotQ (n + m) x y + x (n + m) * y (n + m) = dotQ n x y + (dotQ m _ _ + x (n + m) * y (n + m))
    rw [dotQ_add x y n m]
    grind
theorem dotQ_mulL (a : Rat) (x y : Nat → Rat) (n : Nat) : dotQ n (fun c => a * x c) y = a * dotQ n x y := by
  have h := dotQ_lin a 0 x (fun _ => 0) y n
  rw [← dotQ_congr (x := fun c => a * x c + 0 * (fun _ => (0 : Rat)) c) (y := y) (x' := fun c => a * x c) (y' := y) fun c _ => by grind, h]
  grind
theorem dotQ_swap (f : Nat → Nat → Rat) (z : Nat → Rat) (n : Nat) (w : Nat → Rat) : ∀ m, dotQ n w (fun l => dotQ m (f l) z) = dotQ m (fun c => dotQ n w (fun l => f l c)) z
  | 0 => by
    have h3 : ∀ m, dotQ m w (fun _ => 0) = 0 := fun m => by
      induction m with
      | zero => rfl
      | succ m ih => show dotQ m w (fun _ => 0) + w m * 0 = 0; rw [ih]; grind
    exact h3 n
  | m + 1 => by
    show dotQ n w (fun l => dotQ m (f l) z + f l m * z m) = dotQ m (fun c => dotQ n w (fun l => f l c)) z + dotQ n w (fun l => f l m) * z m
    rw [← dotQ_swap f z n w m]
    have h4 : ∀ k, dotQ k w (fun l => dotQ m (f l) z + f l m * z m) = dotQ k w (fun l => dotQ m (f l) z) + dotQ k w (fun l => f l m) * z m := fun k => by
      induction k with
      | zero => show (0 : Rat) = 0 + 0 * z m; grind
      | succ k ih =>
        show dotQ k w (fun l => dotQ m (f l) z + f l m * z m) + w k * (dotQ m (f k) z + f k m * z m) = dotQ k w (fun l => dotQ m (f l) z) + w k * dotQ m (f k) z + (dotQ k w (fun l => f l m) + w k * f k m) * z m
        rw [ih]
        grind
    exact h4 n
/-- what the rows still say -/
structure JI (n N k : Nat) (b : Rat) (X A : Nat → Nat → Rat) (D0 : Rat) (Ker : (Nat → Rat) → Prop) (Lin : (Nat → Rat) → Prop) : Prop where
  kn : k ≤ n
  nz : b ≠ 0
  mn : JMin n k b X A
  dg : ∀ i c, i < n → c < k → X i c = if i = c then b else 0
  dt : De ((List.range n).map A) (List.range n) = 0 ↔ D0 = 0
  kr : ∀ y, (∀ i, i < n → dotQ N (X i) y = 0) → Ker y
  ln : ∀ i, i < n → Lin (X i)
  iA : ∀ (U : List Nat) (cs : List Nat), ∃ z : Int, De (U.map A) cs = (z : Rat)
theorem JI.whole {n N k : Nat} {b : Rat} {X A : Nat → Nat → Rat} {D0 : Rat} {Ker Lin : (Nat → Rat) → Prop} (h : JI n N k b X A D0 Ker Lin) {i : Nat} (hi : i < n) (j : Nat) : ∃ z : Int, X i j = (z : Rat) := by
  rw [h.mn.whole h.kn h.nz h.dg hi j]
  exact h.iA _ _
theorem JI.step {n N k : Nat} {b : Rat} {X A : Nat → Nat → Rat} {D0 : Rat} {Ker Lin : (Nat → Rat) → Prop} (h : JI n N k b X A D0 Ker Lin) (hk : k < n) (hp : X k k ≠ 0) (hL : ∀ a c x y, Lin x → Lin y → Lin fun j => a * x j + c * y j) :
    JI n N (k + 1) (X k k) (jstep b k X) A D0 Ker Lin where
  kn := hk
  nz := hp
  mn := h.mn.step hk h.nz hp
  dg := fun i c hi hc => by
    unfold jstep
    by_cases e : i = k
    · subst e
      rw [if_pos rfl]
      by_cases hck : c = i
      · subst hck; rw [if_pos rfl]
      · rw [h.dg i c hi (by omega), if_neg (by omega), if_neg (by omega)]
    · rw [if_neg e]
      show (1 / b) * (X k k * X i c + (-(X i k)) * X k c) = _
      by_cases hck : c = k
      · subst hck
        rw [if_neg e]
        grind
      · have h1 := h.dg i c hi (by omega)
        have h2 := h.dg k c hk (by omega)
        rw [if_neg (by omega)] at h2
        rw [h1, h2]
        have := h.nz
        split <;> grind
  dt := h.dt
  kr := fun y hy => h.kr y fun i hi => by
    have hk0 := hy k hk
    have e0 : jstep b k X k = X k := by unfold jstep; rw [if_pos rfl]
    rw [e0] at hk0
    by_cases e : i = k
    · rw [e]; exact hk0
    · have hi0 := hy i hi
      have e1 : jstep b k X i = fun c => (1 / b * X k k) * X i c + (-(1 / b * X i k)) * X k c := by
        unfold jstep
        rw [if_neg e]
        funext c
        show (1 / b) * (X k k * X i c + (-(X i k)) * X k c) = _
        grind
      rw [e1, dotQ_lin, hk0] at hi0
      have hb := h.nz
      have h1 : 1 / b * X k k ≠ 0 := by
        intro z
        rcases Rat.mul_eq_zero.mp z with z | z
        · have : b * (1 / b) = 1 := by grind
          rw [z] at this
          grind
        · exact hp z
      have : (1 / b * X k k) * dotQ N (X i) y = 0 := by grind
      rcases Rat.mul_eq_zero.mp this with z | z
      · exact absurd z h1
      · exact z
  ln := fun i hi => by
    unfold jstep
    split
    · exact h.ln k hk
    · have := hL (1 / b * X k k) (-(1 / b * X i k)) (X i) (X k) (h.ln i hi) (h.ln k hk)
      have e1 : (fun c => (1 / b) * clr (X k) k (X i) c) = fun c => (1 / b * X k k) * X i c + (-(1 / b * X i k)) * X k c := by
        funext c
        show (1 / b) * (X k k * X i c + (-(X i k)) * X k c) = _
        grind
      rw [e1]
      exact this
  iA := h.iA
def swp (k p i : Nat) : Nat := if i = k then p else if i = p then k else i
theorem swp_swp (k p i : Nat) : swp k p (swp k p i) = i := by
  unfold swp
  split <;> split <;> (try split) <;> omega
theorem JI.swap {n N k p : Nat} {b : Rat} {X A : Nat → Nat → Rat} {D0 : Rat} {Ker Lin : (Nat → Rat) → Prop} (h : JI n N k b X A D0 Ker Lin) (hkp : k ≤ p) (hp : p < n) :
    JI n N k b (fun i => X (swp k p i)) (fun i => A (swp k p i)) D0 Ker Lin := by
  have lt : ∀ i, i < n → swp k p i < n := fun i hi => by unfold swp; split <;> (try split) <;> omega
  have inj : ∀ i j, swp k p i = swp k p j → i = j := fun i j e => by
    have := congrArg (swp k p) e
    rw [swp_swp, swp_swp] at this
    exact this
  have nd : ∀ U : List Nat, U.Nodup → (U.map (swp k p)).Nodup := fun U hU => List.Pairwise.map _ (fun a b hne e => hne (inj a b e)) hU
  have mm : ∀ (U : List Nat) (F : Nat → Nat → Rat), U.map (fun i => F (swp k p i)) = (U.map (swp k p)).map F := fun U F => by rw [List.map_map]; rfl
  refine ⟨h.kn, h.nz, fun U cs hn hi hu => ?_, fun i c hi hc => ?_, ?_, fun y hy => h.kr y fun i hi => ?_, fun i hi => h.ln _ (lt i hi), fun U cs => ?_⟩
  · rw [mm, mm]
    have := h.mn (U.map (swp k p)) cs (nd U hn) (fun i hik => List.mem_map.mpr ⟨i, hi i hik, by unfold swp; rw [if_neg (by omega), if_neg (by omega)]⟩) (fun i hm => by
      obtain ⟨j, hj, rfl⟩ := List.mem_map.mp hm
      exact lt j (hu j hj))
    rw [List.length_map] at this
    exact this
  · show X (swp k p i) c = _
    rw [h.dg _ c (lt i hi) hc]
    have : (swp k p i = c) ↔ i = c := by unfold swp; split <;> (try split) <;> omega
    by_cases e : i = c
    · rw [if_pos e, if_pos (this.mpr e)]
    · rw [if_neg e, if_neg fun z => e (this.mp z)]
  · rw [mm]
    have pm : ((List.range n).map (swp k p)).Perm (List.range n) := by
      refine (List.perm_ext_iff_of_nodup (nd _ List.nodup_range) List.nodup_range).mpr fun a => ⟨fun m => ?_, fun m => ?_⟩
      · obtain ⟨i, hi, rfl⟩ := List.mem_map.mp m
        exact List.mem_range.mpr (lt i (List.mem_range.mp hi))
      · exact List.mem_map.mpr ⟨swp k p a, List.mem_range.mpr (lt a (List.mem_range.mp m)), swp_swp k p a⟩
    obtain ⟨s, hs, e⟩ := De_perm (pm.map A)
    rw [e]
    refine ⟨fun z => h.dt.mp ?_, fun z => ?_⟩
    · rcases hs with rfl | rfl <;> grind
    · rw [h.dt.mpr z]
      grind
  · have := hy (swp k p i) (lt i hi)
    rw [swp_swp] at this
    exact this
  · rw [mm]
    exact h.iA _ _
end PD
namespace PD
open PySem PySem.Spec PyProof.Rows L2
open RZ (iZipA ItzT)
open PDX PDI
/-! ### zip and enumerate of lists -/
section
variable {W : Wd} {δ : DS} {P : D → Prop} {ta tb te : TE}
theorem src_zipL {M : Addr → Prop} {H1 : Hp} {a b : Addr} {vs us : List V} {ds es : List D} (w : Wf W M H1) (na : ¬ M a) (nb : ¬ M b) (hs : H1 a = some (.lst vs)) (hr : Reps W M H1 vs ds) (hs' : H1 b = some (.lst us)) (hr' : Reps W M H1 us es) : Src W M (Itz W.K a b) H1 (zipD ds es) := fun M' hm hn i H2 k g => by
  have wg : Wg W M' H1 := ⟨w.g, fun b e => hm b (w.sm b e)⟩
  have wg2 : Wg W M' H2 := ⟨g, fun b e => hm b (w.sm b e)⟩
  have hs2 : SqL W.K H2 a vs := .inl (.inl (rdL_keepM w.wg k na hs))
  have hs3 : SqL W.K H2 b us := .inl (.inl (rdL_keepM w.wg k nb hs'))
  have hr2 : Reps W M' H2 vs ds := (hr.more hn).keepM wg (k.mono hm)
  have hr3 : Reps W M' H2 us es := (hr'.more hn).keepM wg (k.mono hm)
  refine ⟨fun hl => ⟨vs, us, hs2, hs3, ?_⟩, fun d hd => ?_⟩
  · rw [hr2.length, hr3.length, hl]
    unfold zipD
    rw [List.length_zipWith]
    omega
  · obtain ⟨x, y, hx, hy, rfl⟩ := zipD_get hd
    obtain ⟨v, hv, rv⟩ := hr2.get hx
    obtain ⟨u, hu, ru⟩ := hr3.get hy
    refine ⟨⟨vs, us, v, u, hs2, hs3, hv, hu⟩, fun z H3 yy => ?_⟩
    obtain ⟨T, x1, y1, rfl, hT, rfl, f1, f2⟩ := yy
    have e1 := f1 vs hs2
    have e2 := f2 us hs3
    rw [hv] at e1
    rw [hu] at e2
    cases e1
    cases e2
    have kn : Keep W H2 (upd H2 T (.tup [v, u])) := Keep.new hT
    exact ⟨g.new hT, kn, .tup (SqT.of upd_same) (.cons (rv.keepG wg2 kn) (.cons (ru.keepG wg2 kn) .nil))⟩
theorem it_zipL {P : List D → Prop} {ta : TA} (h : PD.EvA W ta δ fun xs => ∃ ds es, xs = [.lst ds, .lst es] ∧ P (zipD ds es)) : IterD W (iZipA W.K ta) δ P := fun M σ H p R q => h M σ H p _ fun vs ds H1 g1 k1 r1 h1 => by
  obtain ⟨ds, es, rfl, hP⟩ := h1
  cases r1 with
  | cons r1 r2 =>
    cases r2 with
    | cons r2 r3 =>
      cases r3
      cases r1 with
      | lst na hs hr =>
        cases r2 with
        | lst nb hs' hr' => exact ⟨_, _, _, _, rfl, .inl ⟨.inl (.inl hs), .inl (.inl hs'), q _ H1 _ g1 k1 hP (src_zipL (p.wf.next g1 k1) na nb hs hr hs' hr')⟩⟩
def iEnumA (K : PySem.W.Frag) (ta : TA) : TI := fun σ H R => iEnumT K ta σ H R ∨ iEnum K ta σ H R
theorem pi_enumAK {X : Cx} {K : PySem.W.Frag} {e : Expr} {ta : TA} {p pos tpos : Pos} {elts : List Expr} {kk : Nat} (h : X.K = K) (hg : Gl X "enumerate") (hm : X.mg "enumerate" = none) (ha : PA X [e] ta) (hs : starEach [e] X.env = [(false, eval e X.env)] := by rfl) :
    PI X (.Tuple elts kk tpos) (.Call (.Name "enumerate" p) [e] [] pos) (iEnumA K ta) := by
  subst h
  exact ⟨fun pins s σ H R I h => by
    rcases h with h | h
    · exact (pi_enumT rfl hg hm ha hs).run pins s σ H R I h
    · exact (pi_enum hg hm ha hs).run pins s σ H R I h⟩
theorem src_enumL {M : Addr → Prop} {H1 : Hp} {a : Addr} {vs : List V} {ds : List D} (w : Wf W M H1) (na : ¬ M a) (hs : H1 a = some (.lst vs)) (hr : Reps W M H1 vs ds) : Src W M (Ite W.K a) H1 (enumD ds) := fun M' hm hn i H2 k g => by
  have wg : Wg W M' H1 := ⟨w.g, fun b e => hm b (w.sm b e)⟩
  have wg2 : Wg W M' H2 := ⟨g, fun b e => hm b (w.sm b e)⟩
  have hs2 : SqL W.K H2 a vs := .inl (.inl (rdL_keepM w.wg k na hs))
  have hr2 : Reps W M' H2 vs ds := (hr.more hn).keepM wg (k.mono hm)
  refine ⟨fun hl => ⟨vs, hs2, by rw [hr2.length, hl, enumD_length]; exact Nat.le_refl _⟩, fun d hd => ?_⟩
  obtain ⟨x, hx, rfl⟩ := enumD_get hd
  obtain ⟨v, hv, rv⟩ := hr2.get hx
  refine ⟨⟨vs, v, hs2, hv⟩, fun z H3 yy => ?_⟩
  obtain ⟨T, x1, rfl, hT, rfl, f1⟩ := yy
  have e1 := f1 vs hs2
  rw [hv] at e1
  cases e1
  have kn : Keep W H2 (upd H2 T (.tup [.int (i : Nat), v])) := Keep.new hT
  exact ⟨g.new hT, kn, .tup (SqT.of upd_same) (.cons (.int _) (.cons (rv.keepG wg2 kn) .nil))⟩
theorem it_enumAT {P : List D → Prop} {ta : TA} (h : PD.EvA W ta δ fun xs => ∃ ds, xs = [.tup ds] ∧ P (enumD ds)) : IterD W (iEnumA W.K ta) δ P := fun M σ H p R q => .inl (it_enumT h M σ H p R q)
theorem it_enumAL {P : List D → Prop} {ta : TA} (h : PD.EvA W ta δ fun xs => ∃ ds, xs = [.lst ds] ∧ P (enumD ds)) : IterD W (iEnumA W.K ta) δ P := fun M σ H p R q => .inr (h M σ H p _ fun vs ds H1 g1 k1 r1 h1 => by
  obtain ⟨ds, rfl, hP⟩ := h1
  cases r1 with
  | cons r1 r2 =>
    cases r2
    cases r1 with
    | lst na hs hr => exact ⟨_, _, rfl, .inl (.inl hs), q _ H1 _ g1 k1 hP (src_enumL (p.wf.next g1 k1) na hs hr)⟩)
/-! ### ints among ints -/
theorem ints_flat {M : Addr → Prop} {H : Hp} : ∀ {l : List Int} {vs : List V}, Reps W M H vs (l.map D.int) → vs = l.map V.int
  | [], _, .nil => rfl
  | i :: l, _, .cons r t => by
    cases r
    rw [ints_flat t]
    rfl
theorem op_notInK {X : Cx} {K : PySem.W.Frag} (h : X.K = K) : OpR X (compareOp .NotIn) (rIn K true) := by subst h; exact op_notIn_seq
theorem inV_int (i : Int) : ∀ l : List Int, inV (.int i) (l.map V.int) = decide (i ∈ l)
  | [] => rfl
  | j :: l => by
    have ih := inV_int i l
    unfold inV at ih ⊢
    rw [List.map_cons, List.any_cons, ih]
    show ((j == i) || _) = _
    by_cases h : j = i
    · subst h; simp
    · have h2 : ¬ i = j := fun e => h e.symm
      simp [h, h2]
theorem flat_ints (l : List Int) : (l.map V.int).all flatV = true := by
  rw [List.all_eq_true]
  intro x hx
  obtain ⟨i, _, rfl⟩ := List.mem_map.mp hx
  rfl
theorem rd_notInT {i : Int} {l : List Int} {xs : List D} (e : xs = l.map D.int) (h : P (.bl (!decide (i ∈ l)))) : RD W (rIn W.K true) (.int i) (.tup xs) P := fun M H v u w r1 r2 Q q => by
  subst e
  cases r1
  cases r2 with
  | tup hs hr =>
    have e := ints_flat hr
    subst e
    refine ⟨_, _, rfl, .inr hs, rfl, flat_ints l, ?_⟩
    rw [if_pos rfl, inV_int]
    exact q _ _ H w.g (Keep.refl H) (.bl _) h
/-! ### // by what is not 0 -/
def CDivS (_ j : Int) : Prop := j ≠ 0 ∧ j.natAbs.log2 < 9000
theorem op_fdivS {X : Cx} : OpR X (binaryOp .FloorDiv) (rI CDivS fun i j => .int (i.fdiv j)) := opI fun _ _ _ _ _ _ _ hc q => floordiv_int hc.1 q (.inl (PyProof.noPylong_of_log2 hc.2))
theorem divS_ok {i j : Int} (h : j ≠ 0) (hb : j.natAbs < 2 ^ 8000) : CDivS i j := ⟨h, Nat.lt_of_lt_of_le (PySem.Flt.log2_lt_of (by decide) hb) (by decide)⟩
end
/-! ### the hand that a law draws from -/
def spHand (K : PySem.W.Frag) : Sp := fun vs H Q _ => ∃ (a : Addr) (ns : List Int), vs = [.ref a] ∧ SqL K H a (ns.map V.int) ∧ ns.length ≤ 63 ∧
  ∀ (H' : Hp) (s b : Addr) (cs : List Int), (∀ x o, H x = some o → H' x = some o) → b ≠ s → cs.length ≤ 63 → H' s = some (.lst [.ref b, .int 0, .int 0, .int (1 + cs.length), .int 0]) → H' b = some (.lst (cs.map V.int)) → Q (.ref s) H'
def quietW (K : PySem.W.Frag) : Wd := ⟨K, none, 0⟩
theorem hand_body {K : PySem.W.Frag} {vs : List V} {H : Hp} {Q : VK} {E : XK} {x : Str} {N : List Str} {g : TG} {te : TE} {ws : List Nat} {t : TS} (h : spHand K vs H Q E)
    (hc : ∀ (i : Int) (δ : DS), ∃ js, (∀ j ∈ js, j ∈ ws) ∧ GD (quietW K) g (.int i) (wipeD (List.replicate (N.length + 2) none) ws) js fun δ2 => EvD (quietW K) te δ2 fun z => ∃ k, z = .int k)
    (ht : ∀ cs : List Int, cs.length ≤ 63 → SD (quietW K) t (none :: some (.lst (cs.map D.int)) :: List.replicate N.length none) (fun _ => False) (fun d => d = .lst [.lst (cs.map D.int), .int 0, .int 0, .int (1 + cs.length), .int 0]) (fun _ => False) (fun _ => False)) {y : Str} :
    tSeq (tAsg (tLc (iSeq K (tSl (rSlL K) (tVar 0) tNoPart (tPart (tC (.int 63))))) g tYes te ws) (gName 1)) t { nx := fun _ H' => Q .non H', rt := Q } (L2.start (x :: y :: N) vs) H := by
  obtain ⟨a, ns, rfl, hS, hl, q⟩ := h
  have hst : L2.start (x :: y :: N) [V.ref a] = some (.ref a) :: none :: List.replicate N.length none := by
    simp [L2.start, List.replicate_succ]
  rw [hst]
  have g0 : ∀ H : Hp, StOk (quietW K) H := fun H s e => by cases e
  have p0 : Pre (quietW K) (fun _ => False) (List.replicate (N.length + 2) none) (some (.ref a) :: none :: List.replicate N.length none) H :=
    ⟨⟨g0 H, fun a e => (by cases e), fun a m => m.elim⟩, by simp, fun i d hd => by
      have := List.mem_of_getElem? hd
      rw [List.mem_replicate] at this
      cases this.2⟩
  show tLc (iSeq K (tSl (rSlL K) (tVar 0) tNoPart (tPart (tC (.int 63))))) g tYes te ws (some (.ref a) :: none :: List.replicate N.length none) H (fun x H1 => gName 1 x (some (.ref a) :: none :: List.replicate N.length none) H1 (fun σ' H' => t { nx := fun _ H' => Q .non H', rt := Q } σ' H'))
  have hL : Evl.EvL (tSl (rSlL K) (tVar 0) tNoPart (tPart (tC (.int 63)))) (some (V.ref a) :: none :: List.replicate N.length none) H (cutV (ns.map V.int) none (some 63)) :=
    Evl.el_sl (Evl.ev_var (i := 0) (v := .ref a) rfl) Evl.eo_none (Evl.eo_some (i := 63) Evl.ev_c) hS
  refine ev_lcF1 (W := quietW K) (P := fun ds => ∃ cs : List Int, ds = cs.map D.int ∧ cs.length ≤ 63) p0 (fun R hR => Or.inl ?_) (fun x H1 => gName 1 x (some (.ref a) :: none :: List.replicate N.length none) H1 (fun σ' H' => t { nx := fun _ H' => Q .non H', rt := Q } σ' H')) (fun b us ds H' gg k hn nm hv r hP => ?_)
  · refine hL H (Evl.Ex.refl H) _ fun p H2 hp e2 h2 => ⟨p, rfl, ⟨_, Evl.sq_of h2⟩, ?_⟩
    obtain ⟨ys, hy, ly⟩ : ∃ ys : List Int, cutV (ns.map V.int) none (some 63) = ys.map V.int ∧ ys.length ≤ 63 := by
      unfold cutV
      rw [← List.map_drop, ← List.map_take]
      refine ⟨_, rfl, ?_⟩
      rw [List.length_take, List.length_drop]
      omega
    rw [hy] at h2
    have rI : ∀ (M : Addr → Prop) (H : Hp) (l : List Int), Reps (quietW K) M H (l.map V.int) (l.map D.int) := fun M H l => by
      induction l with
      | nil => exact .nil
      | cons i l ih => exact .cons (.int i) ih
    refine hR _ H2 (ys.map D.int) (g0 H2) (fun a o _ h => e2 a o h) ⟨by rw [List.length_map]; omega, fun i acc => ∃ cs : List Int, acc = cs.map D.int ∧ cs.length ≤ i, ⟨[], rfl, Nat.le_refl 0⟩, fun i d acc hd hI => ?_, fun acc hI => ?_⟩ (src_lst ⟨g0 H2, fun a e => (by cases e), fun a m => m.elim⟩ (fun m => m) h2 (rI _ _ ys))
    · obtain ⟨cs, rfl, hcl⟩ := hI
      rw [List.getElem?_map] at hd
      cases hz : ys[i]? with
      | none => rw [hz] at hd; cases hd
      | some z =>
        rw [hz] at hd
        cases hd
        obtain ⟨js, hj, hg⟩ := hc z []
        refine ⟨js, hj, fun M σ H v pp r Q q => hg M σ H v pp r Q fun σ' δ' p' e' w' => q σ' δ' p' (et_yes ⟨fun _ => ev_mono e' fun z hz => ?_, fun z => by cases z⟩) w'⟩
        obtain ⟨k, rfl⟩ := hz
        exact ⟨cs ++ [k], by rw [List.map_append]; rfl, by rw [List.length_append]; show cs.length + 1 ≤ i + 1; omega⟩
    · obtain ⟨cs, rfl, hcl⟩ := hI
      exact ⟨cs, rfl, by rw [List.length_map] at hcl; omega⟩
  · obtain ⟨cs, rfl, lc⟩ := hP
    have rr : Reps (quietW K) (fun _ => False) H' us (cs.map D.int) := r.anti fun _ z => z.elim
    have eU := ints_flat rr
    subst eU
    refine ht cs lc (fun _ => False) H' (fun _ => False) _ H' _ ⟨⟨gg, fun a e => (by cases e), fun a m => m.elim⟩, ?_⟩ ⟨Keep.refl _, fun _ z => z, fun _ z w => absurd z w⟩ ⟨fun _ _ _ _ _ _ z => z.elim, fun v d H2 _ kk rv e => ?_, fun _ _ _ _ _ _ z => z.elim, fun _ _ _ _ _ _ z => z.elim, fun _ _ _ _ _ _ _ _ _ _ z => z.elim⟩
    · refine ⟨by simp, fun i d hd => ?_⟩
      match i with
      | 0 => cases hd
      | 1 =>
        cases hd
        exact ⟨.ref b, rfl, .lst nm hv rr⟩
      | i + 2 =>
        have hd' : (List.replicate N.length (none : Option D))[i]? = some (some d) := hd
        have := List.mem_of_getElem? hd'
        rw [List.mem_replicate] at this
        cases this.2
    · subst e
      cases rv with
      | @lst s vs _ ns2 hs rs =>
      cases rs with
      | cons r1 rs =>
      cases rs with
      | cons r2 rs =>
      cases rs with
      | cons r3 rs =>
      cases rs with
      | cons r4 rs =>
      cases rs with
      | cons r5 rs =>
      cases rs
      cases r2
      cases r3
      cases r4
      cases r5
      cases r1 with
      | @lst b2 us2 _ nb hb rb =>
      have eb := ints_flat rb
      subst eb
      refine q H2 s b2 cs (fun x o hx => kk x o (by intro z; cases z) (k x o (by intro z; cases z) hx)) (fun z => ?_) lc hs hb
      subst z
      rw [hb] at hs
      cases cs with
      | nil => cases hs
      | cons c cs => cases hs
/-- a law that draws from a hand: its beginning -/
theorem law_bodyH {K : PySem.W.Frag} {vs : List V} {H : Hp} {Q : VK} {E E' : XK} {x y : Str} {N : List Str} {t : TS} (h : spLaw K vs H Q E)
    (hr : ∀ W, W.K = K → SO W WF t [] (none :: some .st :: List.replicate N.length none) (fun _ _ => False) (fun d => d = .bl true) (fun _ _ => False) (fun _ _ => False) XN) :
    tSeq (tAsg (tCall (spHand K) [] E' (tCons (tVar 0) tNil)) (gName 1)) t { nx := fun _ H' => Q .non H', rt := Q } (L2.start (x :: y :: N) vs) H := by
  obtain ⟨a, ns, rfl, hS, hl, q⟩ := h
  refine ⟨.ref a, rfl, a, ns, rfl, hS, hl, fun H' s b cs hk hb hl2 h2 h3 => ?_⟩
  let W : Wd := ⟨K, some s, b⟩
  have g : StOk W H' := fun s' e => by
    cases e
    exact ⟨cs, 0, 0, (1 + cs.length, 0), h2, hb, h3, by decide, by decide, hl2, by decide, by show (0 : Int) ≤ 1 + (cs.length : Int); omega, by show (1 : Int) + (cs.length : Int) < 2147483647; omega⟩
  have hst : L2.start (x :: y :: N) [V.ref a] = some (.ref a) :: none :: List.replicate N.length none := by
    simp [L2.start, List.replicate_succ]
  have sl : Slots W (fun p => p = s) H' ((L2.start (x :: y :: N) [V.ref a]).set 1 (some (.ref s))) (none :: some .st :: List.replicate N.length none) := by
    rw [hst]
    refine ⟨by simp, fun i d hd => ?_⟩
    match i with
    | 0 => cases hd
    | 1 =>
      cases hd
      exact ⟨.ref s, rfl, .st rfl⟩
    | i + 2 =>
      have hd' : (List.replicate N.length (none : Option D))[i]? = some (some d) := hd
      have := List.mem_of_getElem? hd'
      rw [List.mem_replicate] at this
      cases this.2
  refine hr W rfl (fun p => p = s) H' (fun p => p = s) H' (fun p => p = s) _ H' _ (fun p e => by subst e; exact ⟨_, h2⟩) ⟨⟨g, fun p e => by cases e; rfl, fun p e => (by subst e; exact ⟨_, h2⟩)⟩, sl⟩ (fun a ds m => by cases m) ⟨Ent.refl _ _, EntM.refl _ _⟩
    ⟨fun _ _ _ _ _ _ _ _ z => z.elim, fun v d H2 _ _ r e => ?_, fun _ _ _ _ _ _ _ _ z => z.elim, fun _ _ _ _ _ _ _ _ z => z.elim, fun _ _ _ _ _ _ _ _ _ _ z => z.elim⟩
  subst e
  cases r
  exact q H2
end PD
namespace PD
open PySem PySem.Spec PyProof.Rows L2
section
variable {W : Wd} {Wx : WX} {X : XV → DS → Prop} {ω : Om} {δ : DS} {N : Om → DS → Prop} {R : D → Prop} {B C : Om → DS → Prop} {ts : TS} {g : TG}
/-- for, over a list of one's own that stands meanwhile -/
theorem so_forO {i : Nat} {a : Addr} {ds : List D} (hi : δ[i]? = some (some (.obj a))) (I : Nat → Om → DS → Prop) (i0 : I 0 ω δ) (hI : ∀ k ω' δ', I k ω' δ' → (a, ds) ∈ ω')
    (it : ∀ k d ω' δ', ds[k]? = some d → I k ω' δ' → ∃ js, GD W g d δ' js fun δ2 => SO W Wx ts ω' δ2 (I (k + 1)) R N (I (k + 1)) X) (ie : ∀ ω' δ', I ds.length ω' δ' → N ω' δ') :
    SO W Wx (tFor (iSeq W.K (tVar i)) g ts) ω δ N R B C X := fun M0 H0 M1 L1 M σ H E d0 p ow e o => by
  obtain ⟨v, hv, rv⟩ := p.sl.get i _ hi
  cases rv
  obtain ⟨_, _, _, _, ws, hws, _⟩ := ow a ds (hI 0 ω δ i0)
  refine Or.inl ⟨.ref a, hv, a, rfl, ⟨ws, .inl (.inl hws)⟩, ?_⟩
  refine ⟨fun k m σ' H' => m = ds.length - k ∧ k ≤ ds.length ∧ ∃ M' ω' δ', Pre W M' δ' σ' H' ∧ Own W M0 M' H' ω' ∧ Ent W M0 H0 M' H' ∧ EntM W M H M' H' ∧ I k ω' δ', ⟨_, rfl, Nat.zero_le _, M, ω, δ, p, ow, e.e, EntM.refl M H, i0⟩, ?_⟩
  rintro k m σ' H' ⟨rfl, hk, M', ω', δ', p', ow', e', l', hIk⟩
  have base : ∀ {M2 : Addr → Prop} {H2 : Hp}, In2 W M0 H0 M H M2 H2 → In2 W M0 H0 M1 L1 M2 H2 := fun x => ⟨x.e, e.l.trans x.l p.wf⟩
  obtain ⟨_, _, _, _, us, hus, rus⟩ := ow' a ds (hI k ω' δ' hIk)
  have sq : SqL W.K H' a us := .inl (.inl hus)
  by_cases hlt : k < ds.length
  · obtain ⟨u, hu, ru⟩ := rus.get (List.getElem?_eq_getElem hlt)
    refine .inr ⟨⟨us, u, sq, hu⟩, fun σ2 H2 => ∃ M2 ω2 δ2, Pre W M2 δ2 σ2 H2 ∧ Own W M0 M2 H2 ω2 ∧ In2 W M0 H0 M H M2 H2 ∧ I (k + 1) ω2 δ2, ?_, fun x H3 y => ?_⟩
    · rintro σ2 H2 ⟨M2, ω2, δ2, q1, q2, q3, q4⟩
      exact ⟨_, by omega, rfl, hlt, M2, ω2, δ2, q1, q2, q3.e, q3.l, q4⟩
    · obtain ⟨rfl, y2⟩ := y
      have ex : us[k]? = some x := y2 us sq
      rw [hu] at ex
      cases ex
      obtain ⟨js, hg⟩ := it k ds[k] ω' δ' (List.getElem?_eq_getElem hlt) hIk
      refine hg M' σ' _ u p' ru _ fun σ4 δ4 p4 hb _ => ?_
      exact hb M0 H0 M H M' σ4 _ _ d0 p4 ow' ⟨e', l'⟩ ⟨fun M5 σ5 ω5 δ5 H5 p5 ow5 e5 x5 => ⟨M5, ω5, δ5, p5, ow5, e5, x5⟩, o.rt, fun M5 σ5 ω5 δ5 H5 p5 ow5 e5 x5 => o.nx M5 σ5 ω5 δ5 H5 p5 ow5 (base e5) x5, fun M5 σ5 ω5 δ5 H5 p5 ow5 e5 x5 => ⟨M5, ω5, δ5, p5, ow5, e5, x5⟩, o.xw⟩
  · have ee : k = ds.length := by omega
    refine .inl ⟨⟨us, sq, by rw [rus.length]; omega⟩, o.nx M' σ' ω' δ' H' p' ow' (base ⟨e', l'⟩) (ie ω' δ' ?_)⟩
    rw [← ee]
    exact hIk
end
/-! ### rows of fractions -/
def rowQ (r : List Fr) : Nat → Rat := fun j => toQ (r.getD j (0, 1))
abbrev rowD (r : List Fr) : D := .tup (r.map fr)
abbrev sqD (R : List (List Fr)) : D := .tup (R.map rowD)
abbrev intsD (l : List Int) : D := .lst (l.map D.int)
def SqQ (n : Nat) (R : List (List Fr)) : Prop := R.length = n ∧ ∀ r ∈ R, r.length = n
/-- what is drawn -/
def EntB (p : Fr) : Prop := IsF p ∧ p.1.natAbs ≤ 600 ∧ p.2 ∣ 24
def SqB (n : Nat) (R : List (List Fr)) : Prop := SqQ n R ∧ ∀ r ∈ R, ∀ p ∈ r, EntB p
def detQ (n : Nat) (R : List (List Fr)) : Rat := De (R.map rowQ) (List.range n)
/-- each row by a number of its own -/
theorem De_scales : ∀ (T : List (Nat → Rat)) (ks : List Rat) (U : List (Nat → Rat)) (cs : List Nat), T.length = ks.length → U.length = ks.length →
    (∀ (i : Nat) (x : Nat → Rat) (k : Rat) (y : Nat → Rat), T[i]? = some x → ks[i]? = some k → U[i]? = some y → ∀ c ∈ cs, x c = k * y c) → De T cs = ks.foldr (· * ·) 1 * De U cs
  | [], [], [], cs, _, _, _ => by show De [] cs = 1 * De [] cs; grind
  | t :: T, k :: ks, u :: U, cs, h1, h2, h => by
    rw [De_cons, De_cons, ← ex_mul]
    refine ex_congr fun c rest hc _ hr => ?_
    rw [h 0 t k u rfl rfl rfl c hc, De_scales T ks U rest (by simpa using h1) (by simpa using h2) fun i x k y hx hk hy d hd => h (i + 1) x k y hx hk hy d (hr d hd)]
    show k * u c * (ks.foldr (· * ·) 1 * De U rest) = k * ks.foldr (· * ·) 1 * (u c * De U rest)
    grind
  | [], _ :: _, _, _, h1, _, _ => by simp at h1
  | _ :: _, [], _, _, h1, _, _ => by simp at h1
  | _, [], _ :: _, _, _, h2, _ => by simp at h2
  | _, _ :: _, [], _, _, h2, _ => by simp at h2
/-- a fraction as an integer by a common bottom -/
theorem whole_Q {p : Fr} {k : Int} (hp : 0 < p.2) (hk : p.2 ∣ k) : ((p.1 * (k / p.2) : Int) : Rat) = (k : Rat) * toQ p := by
  obtain ⟨m, rfl⟩ := hk
  rw [Int.mul_ediv_cancel_left _ (by omega)]
  unfold toQ
  have h : (p.2 : Rat) ≠ 0 := int_ne (by omega)
  rw [Rat.intCast_mul, Rat.intCast_mul, Rat.divInt_eq_div]
  grind
theorem detQ_turn {n : Nat} {R T : List (List Fr)} (hR : SqQ n R) (hT : SqQ n T) (h : ∀ i j, i < n → j < n → ((T.getD j []).getD i (0, 1)) = ((R.getD i []).getD j (0, 1))) : detQ n T = detQ n R := by
  have h1 := De_turn (fun i c => rowQ (R.getD i []) c) (List.range n) (List.range n) rfl
  have e1 : (List.range n).map (fun i c => rowQ (R.getD i []) c) = R.map rowQ := by
    apply List.ext_getElem?
    intro i
    rw [List.getElem?_map, List.getElem?_map]
    by_cases hi : i < n
    · rw [List.getElem?_range hi, List.getElem?_eq_getElem (by rw [hR.1]; exact hi)]
      have er : R.getD i [] = R[i]'(by rw [hR.1]; exact hi) := by
        rw [List.getD_eq_getElem?_getD, List.getElem?_eq_getElem (by rw [hR.1]; exact hi)]
        rfl
      show some (fun c => rowQ (R.getD i []) c) = some (rowQ (R[i]'(by rw [hR.1]; exact hi)))
      rw [er]
    · rw [List.getElem?_eq_none (by rw [List.length_range]; omega), List.getElem?_eq_none (by rw [hR.1]; omega)]
      rfl
  rw [e1] at h1
  unfold detQ
  rw [h1]
  refine De_congr (by rw [List.length_map, List.length_map, List.length_range, hT.1]) fun j x y hx hy i hi => ?_
  rw [List.getElem?_map] at hx hy
  have hin := List.mem_range.mp hi
  cases e : T[j]? with
  | none => rw [e] at hx; cases hx
  | some t =>
    rw [e] at hx
    cases hx
    have hj : j < n := by
      have := (List.getElem?_eq_some_iff.mp e).1
      rw [hT.1] at this
      exact this
    rw [List.getElem?_range hj] at hy
    cases hy
    show toQ (t.getD i (0, 1)) = toQ ((R.getD i []).getD j (0, 1))
    rw [← h i j hin hj]
    congr 1
    rw [List.getD_eq_getElem?_getD (l := T), e]
    rfl
theorem detQ_swap {n : Nat} {a b : List Fr} {R : List (List Fr)} : detQ n (b :: a :: R) = -detQ n (a :: b :: R) := De_swap (rowQ b) (rowQ a) _ _
/-- noughts beneath the slant -/
theorem De_tri : ∀ (n k : Nat) (T : List (Nat → Rat)), T.length = n → (∀ (i : Nat) (x : Nat → Rat), T[i]? = some x → ∀ j, j < i → x (k + j) = 0) →
    De T ((List.range n).map (k + ·)) = (List.range n).foldr (fun i acc => ((T[i]?.getD fun _ => 0) (k + i)) * acc) 1
  | 0, k, T, hl, _ => by
    have : T = [] := List.eq_nil_of_length_eq_zero hl
    subst this
    show De [] [] = 1
    rw [De]
  | n + 1, k, T, hl, h => by
    cases T with
    | nil => cases hl
    | cons t T =>
      have hl2 : T.length = n := by simpa using hl
      have e1 : (List.range (n + 1)).map (k + ·) = k :: (List.range n).map ((k + 1) + ·) := by
        rw [List.range_succ_eq_map, List.map_cons, List.map_map]
        congr 1
        refine List.map_congr_left fun x _ => ?_
        show k + (x + 1) = k + 1 + x
        omega
      rw [e1, De_first (fun x hx => by
        obtain ⟨i, hi⟩ := List.mem_iff_getElem?.mp hx
        exact h (i + 1) x hi 0 (by omega))]
      rw [De_tri n (k + 1) T hl2 fun i x hx j hj => by
        have := h (i + 1) x hx (j + 1) (by omega)
        rw [show k + 1 + j = k + (j + 1) by omega]
        exact this]
      rw [List.range_succ_eq_map, List.foldr_cons, List.foldr_map]
      have e2 : ∀ l : List Nat, l.foldr (fun i acc => ((T[i]?.getD fun _ => 0) (k + 1 + i)) * acc) 1 = l.foldr (fun i acc => (((t :: T)[i.succ]?.getD fun _ => 0) (k + i.succ)) * acc) 1 := fun l => by
        induction l with
        | nil => rfl
        | cons i l ih =>
          show _ * _ = _ * _
          rw [ih]
          have e3 : k + 1 + i = k + i.succ := by omega
          rw [e3]
          rfl
      rw [e2]
      rfl
end PD
namespace PD
open PySem PySem.Spec PyProof.Rows L2
/-! ### ranges as values -/
def rRng1 : List V → Hp → VK → Prop := fun vs H Q => ∃ j : Int, vs = [.int j] ∧ ∀ p, H p = none → Q (.ref p) (upd H p (.rng 0 j))
theorem cr_rng1 {X : Cx} : CallR X (.type "range") rRng1 := by
  intro pins s σ H vs us Q I r h
  obtain ⟨j, rfl, q⟩ := h
  obtain ⟨u, rfl, ru⟩ := vals1 r
  obtain ⟨t, rfl⟩ := ru
  refine call_range_1 ⟨.ref s.heap.objs.size, upd H s.heap.objs.size (.rng 0 j), I.laid (t' := s.toks + 1 + 1) (fun b o e => Heap.get?_push_of_some _ e) (Nat.le_refl _) ?_, rfl, q _ (I.hok.fresh (Nat.le_refl _))⟩
  exact ⟨_, t, _, Heap.get?_push_size _ rfl⟩
def iRngV (te : TE) : TI := fun σ H R => te σ H fun v H1 => ∃ (a : Addr) (n : Int), v = .ref a ∧ H1 a = some (.rng 0 n) ∧ -(2 ^ 62) ≤ n ∧ n < 2 ^ 62 ∧ R (Itr 0 n.toNat) H1
theorem pi_rngV {X : Cx} {tg e : Expr} {te : TE} (he : PE X e te) : PI X tg e (iRngV te) := by
  refine ⟨fun pins s σ H R I h => ?_⟩
  refine thn (he.run pins s σ H _ I h) fun v s1 ⟨x, H1, I1, r1, q1⟩ => ?_
  obtain ⟨a, n, rfl, ha, h1, h2, q⟩ := q1
  cases r1
  obtain ⟨t, u, w, ho⟩ := I1.hok _ _ ha
  refine wpAny_pyIter_range (show IsRange s1.heap a 0 n 1 t u w from ho) (small_one (by decide) (by decide) h1 h2) ?_
  refine ⟨s1.heap.objs.size, [s1.heap.objs.size], _, _, H1, rfl, I1.kept (t' := s1.toks) fun b o e => Heap.get?_push_of_some _ e, turn_range _ 0 n.toNat, ?_, fun b hb => ?_, q⟩
  · have e1 : (0 : Int) + ((0 : Nat) : Int) * 1 = 0 := by simp
    have e2 : ((n.toNat : Nat) : Int) - ((0 : Nat) : Int) = Builtin.Range.rangeSize 0 n 1 := by rw [rangeSize_one]; split <;> omega
    show IsRangeIter _ _ ((0 : Int) + ((0 : Nat) : Int) * 1) (((n.toNat : Nat) : Int) - ((0 : Nat) : Int)) 1
    rw [e1, e2]
    exact Heap.get?_push_size _ rfl
  · have e : b = s1.heap.objs.size := by simpa using hb
    subst e
    exact I1.fpOk (Nat.le_refl _) (I1.hok.fresh (Nat.le_refl _))
section
variable {W : Wd} {δ : DS} {P : D → Prop} {te : TE}
theorem it_rngV {P : List D → Prop} (h : PD.EvD W te δ fun x => ∃ n : Int, x = .rng n ∧ -(2 ^ 62) ≤ n ∧ n < 2 ^ 62 ∧ P (rngD 0 n.toNat)) : IterD W (iRngV te) δ P := fun M σ H p R q => h M σ H p _ fun v d H1 g1 k1 r1 h1 => by
  obtain ⟨n, rfl, a, b, hP⟩ := h1
  cases r1 with
  | rng nm ha => exact ⟨_, n, rfl, ha, a, b, q _ H1 _ g1 k1 hP (src_rng 0 _)⟩
theorem rc_rng1 {j : Int} (h : P (.rng j)) : RCD W rRng1 [.int j] P := fun M H vs w r Q q => by
  cases r with
  | cons r1 r2 =>
    cases r2
    cases r1
    exact ⟨j, rfl, fun p hp => q _ (.rng j) _ (w.g.new hp) (Keep.new hp) (.rng (fun m => by
      obtain ⟨o, ho⟩ := w.dom p m
      rw [hp] at ho
      cases ho) upd_same) h⟩
end
/-! ### lists of one's own, whose items are lists -/
section
variable {W : Wd} {Wx : WX} {X : XV → DS → Prop} {ω : Om} {δ : DS} {N : Om → DS → Prop} {R : D → Prop} {B C : Om → DS → Prop} {te : TE}
theorem own_lend1 {M0 M : Addr → Prop} {σ : L2.St} {H : Hp} {a : Addr} {ds : List D} {j : Nat} (p : Pre W M δ σ H) (ow : Own W M0 M H ω) (hm : (a, ds) ∈ ω) (hj : δ[j]? = some (some (.obj a))) : Pre W (fun b => M b ∧ b ≠ a) (δ.set j (some (.lst ds))) σ H := by
  obtain ⟨hM, n0, ns, nb, vs, ha, r⟩ := ow a ds hm
  have an : ∀ b, (M b ∧ b ≠ a) → M b := fun b z => z.1
  refine ⟨⟨p.wf.g, fun b e => ⟨p.wf.sm b e, fun z => ns (by rw [e, z])⟩, fun b z => p.wf.dom b z.1⟩, by rw [List.length_set]; exact p.sl.len, fun i d hd => ?_⟩
  by_cases e : j = i
  · subst e
    obtain ⟨v, h1, h2⟩ := p.sl.get j _ hj
    have hl := (List.getElem?_eq_some_iff.mp hj).1
    rw [List.getElem?_set_self hl] at hd
    cases hd
    cases h2
    exact ⟨_, h1, .lst (fun z => z.2 rfl) ha (r.anti an)⟩
  · rw [List.getElem?_set_ne e] at hd
    obtain ⟨v, h1, h2⟩ := p.sl.get i d hd
    exact ⟨v, h1, h2.anti an⟩
/-- i = e, e a new list of plain items, by a list of one's own -/
theorem so_asgP {i j : Nat} {a : Addr} {ds : List D} (hj : δ[j]? = some (some (.obj a))) (hm : (a, ds) ∈ ω) (h : EvF W te (δ.set j (some (.lst ds))) fun es => D.nrefs es = true ∧ ∀ p, (∀ x ∈ ω, x.1 ≠ p) → N ((p, es) :: ω) (δ.set i (some (.obj p)))) :
    SO W Wx (tAsg te (gName i)) ω δ N R B C X := fun M0 H0 M1 L1 M σ H E d0 p ow e o =>
  h _ σ H (own_lend1 p ow hm hj) _ fun b vs es H2 g2 k2 hb nm hv r ⟨nr, hN⟩ => so_have d0 p ow e o g2 k2 hb hv (r.nref nr) (hN b)
theorem rep_intsD {M M2 : Addr → Prop} {H : Hp} {a : Addr} {w : Addr} {ws : List V} (ha : H a = some (.lst (.ref w :: ws))) (hM : ∀ c, M2 c → M c ∨ c = a) : ∀ {rows : List (List Int)} {vs : List V}, Reps W M H vs (rows.map intsD) → Reps W M2 H vs (rows.map intsD)
  | [], _, .nil => .nil
  | l :: rows, _, .cons r t => by
    refine .cons ?_ (rep_intsD ha hM t)
    cases r with
    | @lst c us _ nc hc rr =>
      have eu := ints_flat rr
      subst eu
      refine .lst (fun z => ?_) hc (rr.nref (nrefs_of fun x hx => by
        obtain ⟨i, _, rfl⟩ := List.mem_map.mp hx
        rfl))
      rcases hM c z with z | z
      · exact nc z
      · subst z
        rw [hc] at ha
        cases l with
        | nil => cases ha
        | cons x l => cases ha
/-- rows = e, e a new list of rows of integers, by the rows ahead -/
theorem so_asgI {i j : Nat} {a : Addr} {l : List Int} {ds : List D} (hj : δ[j]? = some (some (.obj a))) (hm : (a, intsD l :: ds) ∈ ω)
    (h : EvF W te (δ.set j (some (.lst (intsD l :: ds)))) fun es => (∃ rows : List (List Int), es = rows.map intsD) ∧ ∀ p, (∀ x ∈ ω, x.1 ≠ p) → N ((p, es) :: ω) (δ.set i (some (.obj p)))) :
    SO W Wx (tAsg te (gName i)) ω δ N R B C X := fun M0 H0 M1 L1 M σ H E d0 p ow e o => by
  refine h _ σ H (own_lend1 p ow hm hj) _ fun b vs es H2 g2 k2 hb nm hv r h1 => ?_
  obtain ⟨⟨rows, rfl⟩, hN⟩ := h1
  obtain ⟨hM, n0, ns, nb, ws, ha, rw'⟩ := ow a _ hm
  have ha2 := k2 a _ ns ha
  cases rw' with
  | cons r1 rt =>
    cases r1 with
    | lst _ _ _ =>
      exact so_have d0 p ow e o g2 k2 hb hv (rep_intsD ha2 (fun c z => by
        rcases z with z | z
        · by_cases q : c = a
          · exact .inr q
          · exact .inl (.inl ⟨z, q⟩)
        · exact .inl (.inr z)) r) (hN b)
/-- rows[k], rows[i] = rows[i], rows[k], i the first of some places -/
theorem so_swap {j jk jp : Nat} {a p2 : Addr} {ds ps : List D} {k i0 : Nat} {d1 d2 : D} (hj : δ[j]? = some (some (.obj a))) (hm : Has ω a ds) (hjp : δ[jp]? = some (some (.obj p2))) (hmp : Has ω p2 (.int (i0 : Int) :: ps)) (ne : p2 ≠ a)
    (hk : δ[jk]? = some (some (.int (k : Int)))) (h1 : ds[i0]? = some d1) (h2 : ds[k]? = some d2) (hN : N (putO (putO ω a fun es => es.set k d1) a fun es => es.set i0 d2) δ) :
    SO W Wx (tAsg (tTup (tCons (tOp (rIx W.K) (tVar j) (tOp (rIx W.K) (tVar jp) (tC (.int 0)))) (tCons (tOp (rIx W.K) (tVar j) (tVar jk)) tNil))) (gTup W.K 2 (gCons (gSub (tVar j) (tVar jk) rSetL) (gCons (gSub (tVar j) (tOp (rIx W.K) (tVar jp) (tC (.int 0))) rSetL) gNil)))) ω δ N R B C X := fun M0 H0 M1 L1 M σ H E d0 p ow e o => by
  obtain ⟨va, s1, ra⟩ := p.sl.get j _ hj
  cases ra
  obtain ⟨vp, s2, rp⟩ := p.sl.get jp _ hjp
  cases rp
  obtain ⟨vk, s3, rk⟩ := p.sl.get jk _ hk
  cases rk
  obtain ⟨hM, n0, ns, nb, vs, ha, rs⟩ := ow a ds hm.1
  obtain ⟨hM2, _, ns2, _, us, hp, rus⟩ := ow p2 _ hmp.1
  cases rus with
  | @cons u0 us0 _ _ ru rus =>
  cases ru
  obtain ⟨v1, g1, q1⟩ := rs.get h1
  obtain ⟨v2, g2, q2⟩ := rs.get h2
  have l1 := (List.getElem?_eq_some_iff.mp g1).1
  have l2 := (List.getElem?_eq_some_iff.mp g2).1
  have a0 : atI (V.int (i0 : Int) :: us0) 0 = some (.int (i0 : Int)) := atI_nat (j := 0) rfl
  refine ⟨.ref a, s1, .ref p2, s2, .inl ⟨p2, _, 0, _, rfl, rfl, .inl (.inl hp), a0, .inl ⟨a, vs, (i0 : Int), v1, rfl, rfl, .inl (.inl ha), atI_nat g1, .ref a, s1, .int (k : Int), s3, .inl ⟨a, vs, (k : Int), v2, rfl, rfl, .inl (.inl ha), atI_nat g2, by show 2 ≤ sizeLine; decide, fun t ht => ?_⟩⟩⟩⟩
  have kn : Keep W H (upd H t (.tup [v1, v2])) := Keep.new ht
  have p1 := p.next (p.wf.g.new ht) kn
  have ow1 := ow.keep p.wf kn
  have e1 := e.next p.wf kn
  have ha1 : upd H t (.tup [v1, v2]) a = some (.lst vs) := kn a _ ns ha
  have hp1 : upd H t (.tup [v1, v2]) p2 = some (.lst (.int (i0 : Int) :: us0)) := kn p2 _ ns2 hp
  have ix : ∀ {xs : List V} {i : Nat}, i < xs.length → ixN xs.length (i : Int) = some i := fun {xs i} h => by
    unfold ixN
    simp
    omega
  obtain ⟨x1, x2, x3⟩ := own_upd (f := fun es => es.set k d1) (us := vs.set k v1) p1 ow1 e1 d0 hm.1 (fun es m => by
    rw [hm.2 es m]
    exact ((rs.keep p.wf kn).setR k (q1.keep p.wf kn)))
  have hm2 := hm.put (f := fun es => es.set k d1)
  obtain ⟨y1, y2, y3⟩ := own_upd (f := fun es => es.set i0 d2) (us := (vs.set k v1).set i0 v2) x1 x2 x3 d0 hm2.1 (fun es m => by
    obtain ⟨_, _, _, _, vs', hv', rv'⟩ := x2 a _ hm2.1
    rw [upd_same] at hv'
    cases hv'
    rw [hm2.2 es m]
    exact rv'.setR i0 ((q2.keep p.wf kn).upd (rdT_lst ha1) hM))
  refine ⟨t, [v1, v2], rfl, SqT.of upd_same, rfl, v1, [v2], rfl, .ref a, s1, .int (k : Int), s3, a, vs, (k : Int), k, rfl, rfl, ha1, ix l2, v2, [], rfl, .ref a, s1, .ref p2, s2, .inl ⟨p2, _, 0, _, rfl, rfl, .inl (.inl ?_), a0, a, vs.set k v1, (i0 : Int), i0, rfl, rfl, upd_same, ix (by rw [List.length_set]; exact l1), rfl, ?_⟩⟩
  · rw [upd_ne ne]
    exact hp1
  · exact o.nx M _ _ _ _ y1 y2 y3 hN
end
end PD
namespace PD
open PySem PySem.Spec PyProof.Rows L2
theorem toQ_add {p q : Fr} (hp : 0 < p.2) (hq : 0 < q.2) : toQ (addF p q) = toQ p + toQ q := by
  unfold addF
  rw [toQ_low (Int.mul_pos hp hq)]
  unfold toQ
  have h1 : (p.2 : Rat) ≠ 0 := int_ne (by omega)
  have h2 : (q.2 : Rat) ≠ 0 := int_ne (by omega)
  rw [Rat.divInt_eq_div, Rat.divInt_eq_div, Rat.divInt_eq_div, Rat.intCast_add, Rat.intCast_mul, Rat.intCast_mul, Rat.intCast_mul]
  grind
theorem getD_in {r : List Fr} {P : Fr → Prop} (h : ∀ p ∈ r, P p) (h0 : P (0, 1)) (j : Nat) : P (r.getD j (0, 1)) := by
  rw [List.getD_eq_getElem?_getD]
  cases e : r[j]? with
  | none => exact h0
  | some p => exact h p (List.mem_of_getElem? e)
theorem entB0 : EntB (0, 1) := ⟨⟨by decide, by decide⟩, by decide, by decide⟩
theorem toQ_int (i : Int) : toQ (i, 1) = (i : Rat) := by
  unfold toQ
  rw [Rat.divInt_eq_div]
  show (i : Rat) / ((1 : Int) : Rat) = (i : Rat)
  have : ((1 : Int) : Rat) = 1 := rfl
  rw [this]
  grind
def stepL (m : Int) (p : Fr) : Int := ((Nat.lcm m.natAbs p.2.natAbs : Nat) : Int)
def lcmL (r : List Fr) : Int := r.foldl stepL 1
def wholeR (r : List Fr) : List Int := r.map fun p => p.1 * (lcmL r / p.2)
theorem stepL_ok {m : Int} {p : Fr} (h1 : 1 ≤ m) (h2 : m ∣ 24) (hp : EntB p) : 1 ≤ stepL m p ∧ stepL m p ∣ 24 ∧ m ∣ stepL m p ∧ p.2 ∣ stepL m p := by
  have p1 := hp.1.1
  have a1 := Nat.lcm_pos (show 0 < m.natAbs by omega) (show 0 < p.2.natAbs by omega)
  have a2 := Nat.lcm_dvd (Int.natAbs_dvd_natAbs.mpr h2) (Int.natAbs_dvd_natAbs.mpr hp.2.2)
  refine ⟨?_, Int.ofNat_dvd.mpr (a2 : Nat.lcm m.natAbs p.2.natAbs ∣ 24), ?_, ?_⟩
  · show 1 ≤ ((Nat.lcm m.natAbs p.2.natAbs : Nat) : Int)
    omega
  · exact Int.natAbs_dvd_natAbs.mp (Nat.dvd_lcm_left m.natAbs p.2.natAbs)
  · exact Int.natAbs_dvd_natAbs.mp (Nat.dvd_lcm_right m.natAbs p.2.natAbs)
theorem foldL_ok : ∀ {r : List Fr} {m : Int}, 1 ≤ m → m ∣ 24 → (∀ p ∈ r, EntB p) → 1 ≤ r.foldl stepL m ∧ r.foldl stepL m ∣ 24 ∧ m ∣ r.foldl stepL m ∧ ∀ p ∈ r, p.2 ∣ r.foldl stepL m
  | [], m, h1, h2, _ => ⟨h1, h2, Int.dvd_refl m, fun p hp => by cases hp⟩
  | q :: r, m, h1, h2, h => by
    obtain ⟨a, b, c, d⟩ := stepL_ok h1 h2 (h q List.mem_cons_self)
    obtain ⟨e, f, g, i⟩ := foldL_ok (r := r) a b fun p hp => h p (List.mem_cons_of_mem _ hp)
    refine ⟨e, f, Int.dvd_trans c g, fun p hp => ?_⟩
    rcases List.mem_cons.mp hp with rfl | hp
    · exact Int.dvd_trans d g
    · exact i p hp
theorem lcmL_ok {r : List Fr} (h : ∀ p ∈ r, EntB p) : 1 ≤ lcmL r ∧ lcmL r ∣ 24 ∧ ∀ p ∈ r, p.2 ∣ lcmL r := by
  obtain ⟨a, b, _, d⟩ := foldL_ok (m := 1) (by decide) (by decide) h
  exact ⟨a, b, d⟩
theorem whole_small {r : List Fr} (h : ∀ p ∈ r, EntB p) : ∀ x ∈ wholeR r, x.natAbs < 2 ^ 14 := fun x hx => by
  obtain ⟨p, hp, rfl⟩ := List.mem_map.mp hx
  obtain ⟨a, b, c⟩ := lcmL_ok h
  have l24 : lcmL r ≤ 24 := Int.le_of_dvd (by decide) b
  have e := h p hp
  have p1 := e.1.1
  have q1 : (lcmL r / p.2).natAbs ≤ (lcmL r).natAbs := Int.natAbs_ediv_le_natAbs _ _
  have q2 : (lcmL r / p.2).natAbs ≤ 24 := by omega
  rw [Int.natAbs_mul]
  have := Nat.mul_le_mul e.2.1 q2
  have e14 : (2 : Nat) ^ 14 = 16384 := by decide
  omega
theorem all_true {α : Type} (l : List α) : (l.map fun _ => true).all id = true := by
  rw [List.all_eq_true]
  intro x hx
  obtain ⟨_, _, rfl⟩ := List.mem_map.mp hx
  rfl
def belL (l : List (List Fr)) : Int := l.foldl (fun a r => a * lcmL r) 1
theorem belL_Q : ∀ (l : List (List Fr)) (a : Int), ((l.foldl (fun a r => a * lcmL r) a : Int) : Rat) = (a : Rat) * (l.map fun r => ((lcmL r : Int) : Rat)).foldr (· * ·) 1
  | [], a => by show (a : Rat) = (a : Rat) * 1; grind
  | r :: l, a => by
    show ((l.foldl (fun a r => a * lcmL r) (a * lcmL r) : Int) : Rat) = (a : Rat) * (((lcmL r : Int) : Rat) * (l.map fun r => ((lcmL r : Int) : Rat)).foldr (· * ·) 1)
    rw [belL_Q l, Rat.intCast_mul]
    grind
theorem whole_row {r : List Fr} (h : ∀ p ∈ r, EntB p) {c : Nat} (hc : c < r.length) : fnR (wholeR r) c = ((lcmL r : Int) : Rat) * rowQ r c := by
  obtain ⟨a, b, d⟩ := lcmL_ok h
  have hm : r[c] ∈ r := List.getElem_mem hc
  have e1 : (wholeR r).getD c 0 = r[c].1 * (lcmL r / r[c].2) := by
    unfold wholeR
    rw [List.getD_eq_getElem?_getD, List.getElem?_map, List.getElem?_eq_getElem hc]
    rfl
  have e2 : r.getD c (0, 1) = r[c] := by
    rw [List.getD_eq_getElem?_getD, List.getElem?_eq_getElem hc]
    rfl
  show (((wholeR r).getD c 0 : Int) : Rat) = _ * toQ (r.getD c (0, 1))
  rw [e1, e2]
  exact whole_Q (by have := (h _ hm).1.1; omega) (d _ hm)
theorem whole_det {n : Nat} {R : List (List Fr)} (h : SqB n R) {t : Int} (ht : (t : Rat) = De ((R.map wholeR).map fnR) (List.range n)) (hb : 1 ≤ belL R) : IsF (lowF t (belL R)) ∧ toQ (lowF t (belL R)) = detQ n R := by
  refine ⟨lowF_isF (by omega), ?_⟩
  rw [toQ_low (by omega), Rat.divInt_eq_div, ht]
  have e := De_scales ((R.map wholeR).map fnR) (R.map fun r => ((lcmL r : Int) : Rat)) (R.map rowQ) (List.range n) (by simp) (by simp) (fun i x k y hx hk hy c hc => by
    simp only [List.getElem?_map] at hx hk hy
    cases hr : R[i]? with
    | none => rw [hr] at hx; cases hx
    | some r =>
      rw [hr] at hx hk hy
      cases hx
      cases hk
      cases hy
      have hm := List.mem_of_getElem? hr
      exact whole_row (h.2 r hm) (by rw [h.1.2 r hm]; exact List.mem_range.mp hc))
  have e2 := belL_Q R 1
  have e3 : ((1 : Int) : Rat) = 1 := rfl
  rw [e3] at e2
  have hne : ((belL R : Int) : Rat) ≠ 0 := int_ne (by omega)
  have e4 : ((belL R : Int) : Rat) = 1 * (R.map fun r => ((lcmL r : Int) : Rat)).foldr (· * ·) 1 := e2
  rw [e]
  unfold detQ
  grind
theorem entB_draw {a b : Int} (h0 : 0 ≤ a) (h1 : a < 19) (h2 : 0 ≤ b) (h3 : b < 4) : EntB (lowF (a - 9) (1 + b)) ∧ (lowF (a - 9) (1 + b)).2 ∣ 12 := by
  have hb : 0 < 1 + b := by omega
  have i := lowF_isF (a := a - 9) hb
  have d : (lowF (a - 9) (1 + b)).2 ∣ 1 + b := ⟨(gcdI (a - 9) (1 + b) : Int), by
    show 1 + b = (1 + b) / (gcdI (a - 9) (1 + b) : Int) * (gcdI (a - 9) (1 + b) : Int)
    exact (Int.ediv_mul_cancel (gcdI_dvd2 _ _)).symm⟩
  have t : (lowF (a - 9) (1 + b)).1.natAbs ≤ (a - 9).natAbs := Int.natAbs_ediv_le_natAbs _ _
  have d12 : (lowF (a - 9) (1 + b)).2 ∣ 12 := by
    refine Int.dvd_trans d ?_
    have : b = 0 ∨ b = 1 ∨ b = 2 ∨ b = 3 := by omega
    rcases this with rfl | rfl | rfl | rfl <;> decide
  exact ⟨⟨i, by omega, Int.dvd_trans d12 (by decide)⟩, d12⟩
/-- what is drawn, in rows -/
def SqC (n : Nat) (R : List (List Fr)) : Prop := SqQ n R ∧ ∀ r ∈ R, ∀ p ∈ r, IsF p ∧ p.1.natAbs ≤ 9 ∧ p.2 ∣ 12
theorem entC_draw {a b : Int} (h0 : 0 ≤ a) (h1 : a < 19) (h2 : 0 ≤ b) (h3 : b < 4) : IsF (lowF (a - 9) (1 + b)) ∧ (lowF (a - 9) (1 + b)).1.natAbs ≤ 9 ∧ (lowF (a - 9) (1 + b)).2 ∣ 12 := by
  have t : (lowF (a - 9) (1 + b)).1.natAbs ≤ (a - 9).natAbs := Int.natAbs_ediv_le_natAbs _ _
  obtain ⟨⟨i, _, _⟩, d⟩ := entB_draw h0 h1 h2 h3
  exact ⟨i, by omega, d⟩
theorem sqC_b {n : Nat} {R : List (List Fr)} (h : SqC n R) : SqB n R := ⟨h.1, fun r hr p hp => by
  obtain ⟨a, b, c⟩ := h.2 r hr p hp
  exact ⟨a, by omega, Int.dvd_trans c (by decide)⟩⟩

def pivL (left : List (List Int)) (k : Nat) : List Nat := (List.range k).filter fun i => !decide ((left.getD i []).getD 0 0 = 0)
theorem pivL_snoc {left : List (List Int)} {k : Nat} {r : List Int} (h : left[k]? = some r) : pivL left (k + 1) = pivL left k ++ (if !decide (r.getD 0 0 = 0) then [k] else []) := by
  unfold pivL
  rw [List.range_succ, List.filter_append]
  congr 1
  have e : left.getD k [] = r := by rw [List.getD_eq_getElem?_getD, h]; rfl
  rw [List.filter_cons, e]
  split <;> rfl
theorem pivL_nil {left : List (List Int)} (h : pivL left left.length = []) : ∀ r ∈ left, r.getD 0 0 = 0 := fun r hr => by
  obtain ⟨i, hi⟩ := List.mem_iff_getElem?.mp hr
  have hl := (List.getElem?_eq_some_iff.mp hi).1
  unfold pivL at h
  rw [List.filter_eq_nil_iff] at h
  have := h i (List.mem_range.mpr hl)
  have e : left.getD i [] = r := by rw [List.getD_eq_getElem?_getD, hi]; rfl
  rw [e] at this
  simpa using this
theorem pivL_head {left : List (List Int)} {i : Nat} {l : List Nat} (h : pivL left left.length = i :: l) : ∃ p, left[i]? = some p ∧ p.getD 0 0 ≠ 0 := by
  have hm : i ∈ pivL left left.length := by rw [h]; exact List.mem_cons_self
  unfold pivL at hm
  obtain ⟨h1, h2⟩ := List.mem_filter.mp hm
  have hl := List.mem_range.mp h1
  refine ⟨left[i], List.getElem?_eq_getElem hl, ?_⟩
  have e : left.getD i [] = left[i] := by rw [List.getD_eq_getElem?_getD, List.getElem?_eq_getElem hl]; rfl
  rw [e] at h2
  simpa using h2
def szB (m : Nat) : Nat := 15 * 2 ^ (10 - m)
theorem szB_step {m : Nat} (h : m + 1 ≤ 10) : szB m = szB (m + 1) + szB (m + 1) := by
  unfold szB
  have e : 10 - m = 10 - (m + 1) + 1 := by omega
  rw [e, Nat.pow_succ]
  omega
theorem szB_top (m : Nat) (h : 1 ≤ m) : szB m ≤ 7680 := by
  unfold szB
  have : 2 ^ (10 - m) ≤ 2 ^ 9 := Nat.pow_le_pow_right (by decide) (by omega)
  have e : (2 : Nat) ^ 9 = 512 := by decide
  omega
theorem szB_pos (m : Nat) : 15 ≤ szB m := by
  unfold szB
  have : 1 ≤ 2 ^ (10 - m) := Nat.one_le_two_pow
  omega
/-- how great the rows are -/
def SmR (s : Nat) (left : List (List Int)) : Prop := ∀ r ∈ left, ∀ x ∈ r, x.natAbs < 2 ^ (s - 1)
theorem getD_small {s : Nat} {r : List Int} (h : ∀ x ∈ r, x.natAbs < 2 ^ (s - 1)) (j : Nat) : (r.getD j 0).natAbs < 2 ^ (s - 1) := by
  rw [List.getD_eq_getElem?_getD]
  cases e : r[j]? with
  | none => exact Nat.two_pow_pos _
  | some x => exact h x (List.mem_of_getElem? e)
theorem num_small {s : Nat} {a b c d : Int} (hs : 1 ≤ s) (h1 : a.natAbs < 2 ^ (s - 1)) (h2 : b.natAbs < 2 ^ (s - 1)) (h3 : c.natAbs < 2 ^ (s - 1)) (h4 : d.natAbs < 2 ^ (s - 1)) : (a * b - c * d).natAbs < 2 ^ (s + s - 1) := by
  have x := mul_lt h1 h2
  have y := mul_lt h3 h4
  have e : (2 : Nat) ^ (s + s - 1) = 2 ^ (s - 1 + (s - 1)) + 2 ^ (s - 1 + (s - 1)) := by
    rw [show s + s - 1 = (s - 1 + (s - 1)) + 1 by omega, Nat.pow_succ]
    omega
  omega
theorem fdiv_small {a b z : Int} {n : Nat} (hb : b ≠ 0) (h : a = b * z) (ha : a.natAbs < 2 ^ n) : (a.fdiv b).natAbs < 2 ^ n := by
  rw [fdiv_of hb h]
  have : a.natAbs = b.natAbs * z.natAbs := by rw [h, Int.natAbs_mul]
  have h1 : 1 ≤ b.natAbs := by omega
  have := Nat.mul_le_mul_right z.natAbs h1
  omega
theorem getD_nat {l : List Int} {j : Nat} (h : j < l.length) : (l.map D.int)[j]? = some (.int (l.getD j 0)) := by
  rw [List.getElem?_map, List.getD_eq_getElem?_getD, List.getElem?_eq_getElem h]
  rfl

/-! ### rows with sides, solved -/
def fnW (Ws : List (List Int)) : Nat → Nat → Rat := fun i => fnR (Ws.getD i [])
def sides (R S : List (List Fr)) : List (List Fr) := List.zipWith (fun r s => r ++ s) R S
def Ident (n : Nat) (S : List (List Fr)) : Prop := ∀ i l, i < n → l < n → rowQ (S.getD i []) l = if i = l then 1 else 0
def KerS (n w : Nat) (R S : List (List Fr)) (y : Nat → Rat) : Prop := ∀ i, i < n → dotQ (n + w) (rowQ ((sides R S).getD i [])) y = 0
def LinS (n : Nat) (R S : List (List Fr)) (x : Nat → Rat) : Prop := Ident n S → ∀ j, j < n → x j = dotQ n (fun l => x (n + l)) (fun l => rowQ (R.getD l []) j)
structure SideOk (n w : Nat) (R S : List (List Fr)) : Prop where
  R : SqB n R
  l : S.length = n
  r : ∀ s ∈ S, s.length = w ∧ ∀ p ∈ s, EntB p
theorem SideOk.at {n w : Nat} {R S : List (List Fr)} (h : SideOk n w R S) {i : Nat} (hi : i < n) : ∃ r s, R[i]? = some r ∧ S[i]? = some s ∧ R.getD i [] = r ∧ S.getD i [] = s ∧ r.length = n ∧ s.length = w ∧ (∀ p ∈ r ++ s, EntB p) ∧ (sides R S)[i]? = some (r ++ s) ∧ (sides R S).getD i [] = r ++ s := by
  have hr : R[i]? = some (R[i]'(by rw [h.R.1.1]; exact hi)) := List.getElem?_eq_getElem (by rw [h.R.1.1]; exact hi)
  have hs : S[i]? = some (S[i]'(by rw [h.l]; exact hi)) := List.getElem?_eq_getElem (by rw [h.l]; exact hi)
  generalize R[i]'(by rw [h.R.1.1]; exact hi) = r at hr
  generalize S[i]'(by rw [h.l]; exact hi) = s at hs
  have mr := List.mem_of_getElem? hr
  have ms := h.r s (List.mem_of_getElem? hs)
  have hz : (sides R S)[i]? = some (r ++ s) := by
    unfold sides
    rw [List.getElem?_zipWith, hr, hs]
  refine ⟨r, s, hr, hs, ?_, ?_, h.R.1.2 r mr, ms.1, fun p hp => ?_, hz, ?_⟩
  · rw [List.getD_eq_getElem?_getD, hr]; rfl
  · rw [List.getD_eq_getElem?_getD, hs]; rfl
  · rcases List.mem_append.mp hp with hp | hp
    · exact h.R.2 r mr p hp
    · exact ms.2 p hp
  · rw [List.getD_eq_getElem?_getD, hz]; rfl
theorem rowQ_left {r s : List Fr} {n c : Nat} (h : r.length = n) (hc : c < n) : rowQ (r ++ s) c = rowQ r c := by
  unfold rowQ
  rw [List.getD_eq_getElem?_getD, List.getD_eq_getElem?_getD, List.getElem?_append_left (by omega)]
theorem rowQ_right {r s : List Fr} {n : Nat} (h : r.length = n) (c : Nat) : rowQ (r ++ s) (n + c) = rowQ s c := by
  unfold rowQ
  rw [List.getD_eq_getElem?_getD, List.getD_eq_getElem?_getD, List.getElem?_append_right (by omega), h, Nat.add_sub_cancel_left]
theorem fnW_at {n w : Nat} {R S : List (List Fr)} (h : SideOk n w R S) {i : Nat} (hi : i < n) {c : Nat} (hc : c < n + w) : fnW ((sides R S).map wholeR) i c = ((lcmL ((sides R S).getD i []) : Int) : Rat) * rowQ ((sides R S).getD i []) c := by
  obtain ⟨r, s, _, _, _, _, lr, ls, he, hz, hg⟩ := h.at hi
  have e : ((sides R S).map wholeR).getD i [] = wholeR (r ++ s) := by
    rw [List.getD_eq_getElem?_getD, List.getElem?_map, hz]
    rfl
  unfold fnW
  rw [e, hg]
  exact whole_row he (by rw [List.length_append, lr, ls]; exact hc)
theorem lcm_ne {n w : Nat} {R S : List (List Fr)} (h : SideOk n w R S) {i : Nat} (hi : i < n) : ((lcmL ((sides R S).getD i []) : Int) : Rat) ≠ 0 := by
  obtain ⟨r, s, _, _, _, _, _, _, he, _, hg⟩ := h.at hi
  rw [hg]
  have := (lcmL_ok he).1
  exact int_ne (by omega)
theorem foldr_ne : ∀ {l : List Rat}, (∀ x ∈ l, x ≠ 0) → l.foldr (· * ·) 1 ≠ 0
  | [], _ => by decide
  | x :: l, h => fun z => by
    rcases Rat.mul_eq_zero.mp z with z | z
    · exact h x List.mem_cons_self z
    · exact foldr_ne (fun y hy => h y (List.mem_cons_of_mem _ hy)) z
theorem sol_start {n w : Nat} {R S : List (List Fr)} (h : SideOk n w R S) : JI n (n + w) 0 1 (fnW ((sides R S).map wholeR)) (fnW ((sides R S).map wholeR)) (detQ n R) (KerS n w R S) (LinS n R S) where
  kn := Nat.zero_le n
  nz := by decide
  mn := JMin.start n _
  dg := fun i c _ hc => by omega
  dt := by
    have e := De_scales ((List.range n).map (fnW ((sides R S).map wholeR))) ((List.range n).map fun i => ((lcmL ((sides R S).getD i []) : Int) : Rat)) (R.map rowQ) (List.range n) (by simp) (by simp [h.R.1.1]) (fun i x k y hx hk hy c hc => by
      rw [List.getElem?_map] at hx hk hy
      by_cases hi : i < n
      · rw [List.getElem?_range hi] at hx hk
        cases hx
        cases hk
        obtain ⟨r, s, hr, _, e1, _, lr, ls, _, _, hg⟩ := h.at hi
        rw [hr] at hy
        cases hy
        have hcn := List.mem_range.mp hc
        show fnW ((sides R S).map wholeR) i c = ((lcmL ((sides R S).getD i []) : Int) : Rat) * rowQ r c
        rw [fnW_at h hi (by omega), hg, rowQ_left lr hcn]
      · rw [List.getElem?_eq_none (by rw [List.length_range]; omega)] at hx
        cases hx)
    rw [e]
    have hne := foldr_ne (l := (List.range n).map fun i => ((lcmL ((sides R S).getD i []) : Int) : Rat)) (fun x hx => by
      obtain ⟨i, hi, rfl⟩ := List.mem_map.mp hx
      exact lcm_ne h (List.mem_range.mp hi))
    refine ⟨fun z => ?_, fun z => ?_⟩
    · rcases Rat.mul_eq_zero.mp z with z | z
      · exact absurd z hne
      · exact z
    · show _ * detQ n R = 0
      rw [z]
      grind
  kr := fun y hy i hi => by
    have h1 := hy i hi
    rw [dotQ_congr (x' := fun c => ((lcmL ((sides R S).getD i []) : Int) : Rat) * rowQ ((sides R S).getD i []) c) (y' := y) (fun c hc => by rw [fnW_at h hi hc]), dotQ_mulL] at h1
    rcases Rat.mul_eq_zero.mp h1 with z | z
    · exact absurd z (lcm_ne h hi)
    · exact z
  ln := fun i hi hid j hj => by
    have hw : ∀ l, l < n → fnW ((sides R S).map wholeR) i (n + l) = ((lcmL ((sides R S).getD i []) : Int) : Rat) * (if i = l then 1 else 0) := fun l hl => by
      obtain ⟨r, s, hr, hs, e1, e2, lr, ls, he, hz, hg⟩ := h.at hi
      have e : ((sides R S).map wholeR).getD i [] = wholeR (r ++ s) := by
        rw [List.getD_eq_getElem?_getD, List.getElem?_map, hz]
        rfl
      by_cases hlw : l < w
      · rw [fnW_at h hi (by omega), hg, rowQ_right lr]
        have := hid i l hi hl
        rw [e2] at this
        rw [this]
      · -- beyond the sides all is nought, and so is what is asked there
        have hz2 : rowQ s l = 0 := by
          unfold rowQ
          rw [List.getD_eq_getElem?_getD, List.getElem?_eq_none (by omega)]
          show toQ (0, 1) = 0
          rw [toQ_int]
          rfl
        have := hid i l hi hl
        rw [e2, hz2] at this
        rw [← this]
        unfold fnW
        rw [e]
        show (((wholeR (r ++ s)).getD (n + l) 0 : Int) : Rat) = _
        rw [List.getD_eq_getElem?_getD, List.getElem?_eq_none (by
          unfold wholeR
          rw [List.length_map, List.length_append]
          omega)]
        show ((0 : Int) : Rat) = _
        have : ((0 : Int) : Rat) = 0 := rfl
        rw [this]
        grind
    obtain ⟨r, s, hr, hs, e1, e2, lr, ls, he, hz, hg⟩ := h.at hi
    rw [dotQ_one (i := i) hi (fun c hc hne => by
      show fnW ((sides R S).map wholeR) i (n + c) * _ = 0
      rw [hw c hc, if_neg (by omega)]
      grind)]
    show fnW ((sides R S).map wholeR) i j = fnW ((sides R S).map wholeR) i (n + i) * rowQ (R.getD i []) j
    rw [hw i hi, if_pos rfl, fnW_at h hi (by omega), hg, rowQ_left lr hj, e1]
    grind
  iA := fun U cs => by
    have e : U.map (fnW ((sides R S).map wholeR)) = (U.map fun i => ((sides R S).map wholeR).getD i []).map fnR := by
      rw [List.map_map]
      rfl
    rw [e]
    exact De_int _ _
theorem LinS.lin {n : Nat} {R S : List (List Fr)} (a c : Rat) (x y : Nat → Rat) (hx : LinS n R S x) (hy : LinS n R S y) : LinS n R S (fun j => a * x j + c * y j) := fun hid j hj => by
  show a * x j + c * y j = dotQ n (fun l => a * x (n + l) + c * y (n + l)) (fun l => rowQ (R.getD l []) j)
  rw [hx hid j hj, hy hid j hj, ← dotQ_lin]
theorem JI.congr {n N k : Nat} {b : Rat} {X X' A : Nat → Nat → Rat} {D0 : Rat} {Ker Lin : (Nat → Rat) → Prop} (h : JI n N k b X A D0 Ker Lin) (e : ∀ i, i < n → X i = X' i) : JI n N k b X' A D0 Ker Lin where
  kn := h.kn
  nz := h.nz
  mn := fun U cs hn hi hu => by
    rw [← List.map_congr_left fun i hm => e i (hu i hm)]
    exact h.mn U cs hn hi hu
  dg := fun i c hi hc => by rw [← e i hi]; exact h.dg i c hi hc
  dt := h.dt
  kr := fun y hy => h.kr y fun i hi => by rw [e i hi]; exact hy i hi
  ln := fun i hi => by rw [← e i hi]; exact h.ln i hi
  iA := h.iA
/-- a row without its number at a place, by a pivot's row -/
def cstep (b : Int) (k : Nat) (q r : List Int) : List Int := List.zipWith (fun x y => (q.getD k 0 * x - r.getD k 0 * y).fdiv b) r q
def newW (b : Int) (k : Nat) (Ws : List (List Int)) : List (List Int) := (List.range Ws.length).map fun i => if i = k then Ws.getD k [] else cstep b k (Ws.getD k []) (Ws.getD i [])
structure RowsOk (n N s : Nat) (Ws : List (List Int)) : Prop where
  l : Ws.length = n
  r : ∀ r ∈ Ws, r.length = N ∧ ∀ x ∈ r, x.natAbs < 2 ^ (s - 1)
theorem RowsOk.at {n N s : Nat} {Ws : List (List Int)} (h : RowsOk n N s Ws) {i : Nat} (hi : i < n) : ∃ r, Ws[i]? = some r ∧ Ws.getD i [] = r ∧ r.length = N ∧ (∀ x ∈ r, x.natAbs < 2 ^ (s - 1)) := by
  have e : Ws[i]? = some (Ws[i]'(by rw [h.l]; exact hi)) := List.getElem?_eq_getElem (by rw [h.l]; exact hi)
  obtain ⟨a, b⟩ := h.r _ (List.mem_of_getElem? e)
  exact ⟨_, e, by rw [List.getD_eq_getElem?_getD, e]; rfl, a, b⟩
theorem cstep_at {b : Int} {k j : Nat} {q r : List Int} (hl : q.length = r.length) (hj : j < r.length) : (cstep b k q r).getD j 0 = (q.getD k 0 * r.getD j 0 - r.getD k 0 * q.getD j 0).fdiv b := by
  unfold cstep
  have h1 : r[j]? = some (r.getD j 0) := by
    rw [List.getD_eq_getElem?_getD, List.getElem?_eq_getElem hj]
    rfl
  have h2 : q[j]? = some (q.getD j 0) := by
    rw [List.getD_eq_getElem?_getD, List.getElem?_eq_getElem (by omega)]
    rfl
  rw [List.getD_eq_getElem?_getD, List.getElem?_zipWith, h1, h2]
  rfl
theorem newW_step {n N k s : Nat} {b : Int} {Ws : List (List Int)} {A : Nat → Nat → Rat} {D0 : Rat} {Ker Lin : (Nat → Rat) → Prop} (hb : b ≠ 0) (h : JI n N k (b : Rat) (fnW Ws) A D0 Ker Lin) (hw : RowsOk n N s Ws) (hk : k < n) (hp : (Ws.getD k []).getD k 0 ≠ 0) (hL : ∀ a c x y, Lin x → Lin y → Lin fun j => a * x j + c * y j) :
    JI n N (k + 1) (((Ws.getD k []).getD k 0 : Int) : Rat) (fnW (newW b k Ws)) A D0 Ker Lin ∧ ∀ i j, i < n → i ≠ k → j < N → ∃ z, (Ws.getD k []).getD k 0 * (Ws.getD i []).getD j 0 - (Ws.getD i []).getD k 0 * (Ws.getD k []).getD j 0 = b * z := by
  have hp2 : fnW Ws k k ≠ 0 := int_ne hp
  have st := h.step hk hp2 hL
  have ex : ∀ i j, i < n → i ≠ k → ∃ z : Int, (Ws.getD k []).getD k 0 * (Ws.getD i []).getD j 0 - (Ws.getD i []).getD k 0 * (Ws.getD k []).getD j 0 = b * z := fun i j hi hne => by
    obtain ⟨z, hz⟩ := st.whole hi j
    refine ⟨z, ?_⟩
    unfold jstep at hz
    rw [if_neg hne] at hz
    have hz : (1 / (b : Rat)) * ((((Ws.getD k []).getD k 0 : Int) : Rat) * (((Ws.getD i []).getD j 0 : Int) : Rat) + (-(((Ws.getD i []).getD k 0 : Int) : Rat)) * (((Ws.getD k []).getD j 0 : Int) : Rat)) = (z : Rat) := hz
    have hbq := int_ne hb
    have e : (((Ws.getD k []).getD k 0 * (Ws.getD i []).getD j 0 - (Ws.getD i []).getD k 0 * (Ws.getD k []).getD j 0 : Int) : Rat) = ((b * z : Int) : Rat) := by
      rw [Rat.intCast_sub, Rat.intCast_mul, Rat.intCast_mul, Rat.intCast_mul]
      grind
    exact Rat.intCast_inj.mp e
  refine ⟨st.congr fun i hi => ?_, fun i j hi hne _ => ex i j hi hne⟩
  have eg : (newW b k Ws).getD i [] = if i = k then Ws.getD k [] else cstep b k (Ws.getD k []) (Ws.getD i []) := by
    unfold newW
    rw [List.getD_eq_getElem?_getD, List.getElem?_map, List.getElem?_range (by rw [hw.l]; exact hi)]
    rfl
  unfold jstep fnW
  rw [eg]
  by_cases e : i = k
  · rw [if_pos e, if_pos e]
  · rw [if_neg e, if_neg e]
    funext j
    obtain ⟨z, hz⟩ := ex i j hi e
    obtain ⟨q, _, eq, lq, _⟩ := hw.at hk
    obtain ⟨r, _, er, lr, _⟩ := hw.at hi
    rw [eq, er] at hz ⊢
    show (1 / (b : Rat)) * (((q.getD k 0 : Int) : Rat) * ((r.getD j 0 : Int) : Rat) + (-((r.getD k 0 : Int) : Rat)) * ((q.getD j 0 : Int) : Rat)) = (((cstep b k q r).getD j 0 : Int) : Rat)
    have hbq := int_ne hb
    have ec : (cstep b k q r).getD j 0 = z := by
      by_cases hj : j < r.length
      · rw [cstep_at (by omega) hj, fdiv_of hb hz]
      · have h0 : r.getD j 0 = 0 := by rw [List.getD_eq_getElem?_getD, List.getElem?_eq_none (by omega)]; rfl
        have h1 : q.getD j 0 = 0 := by rw [List.getD_eq_getElem?_getD, List.getElem?_eq_none (by omega)]; rfl
        have h2 : (cstep b k q r).getD j 0 = 0 := by
          rw [List.getD_eq_getElem?_getD, List.getElem?_eq_none (by unfold cstep; rw [List.length_zipWith]; omega)]
          rfl
        rw [h0, h1] at hz
        rw [h2]
        have : b * z = 0 := by rw [← hz]; omega
        rcases Int.mul_eq_zero.mp this with y | y
        · exact absurd y hb
        · exact y.symm
    rw [ec]
    have e2 : ((q.getD k 0 * r.getD j 0 - r.getD k 0 * q.getD j 0 : Int) : Rat) = ((b * z : Int) : Rat) := by rw [hz]
    rw [Rat.intCast_sub, Rat.intCast_mul, Rat.intCast_mul, Rat.intCast_mul] at e2
    grind
/-- what is told at the end -/
def resS (n w : Nat) (b : Int) (Ws : List (List Int)) : List (List Fr) := (List.range n).map fun i => (List.range w).map fun j => lowF ((if 0 < b then 1 else -1) * (Ws.getD i []).getD (n + j) 0) ((if 0 < b then 1 else -1) * b)
structure Sol (n w : Nat) (R S res : List (List Fr)) : Prop where
  l : res.length = n
  r : ∀ r ∈ res, r.length = w ∧ ∀ p ∈ r, IsF p ∧ Sz 600 p
  ker : ∀ j, j < w → ∀ i, i < n → dotQ n (rowQ (R.getD i [])) (fun l => rowQ (res.getD l []) j) = rowQ (S.getD i []) j
  lin : Ident n S → ∀ i, i < n → ∀ j, j < n → dotQ n (rowQ (res.getD i [])) (fun l => rowQ (R.getD l []) j) = if i = j then 1 else 0
theorem sol_none {n N k : Nat} {b : Rat} {X A : Nat → Nat → Rat} {D0 : Rat} {Ker Lin : (Nat → Rat) → Prop} (h : JI n N k b X A D0 Ker Lin) (hk : k < n) (hz : ∀ i, k ≤ i → i < n → X i k = 0) : D0 = 0 := by
  have e := h.mn.det h.kn h.nz h.dg
  have hd : (List.range n).drop k = k :: (List.range n).drop (k + 1) := by
    rw [List.drop_eq_getElem_cons (by rw [List.length_range]; exact hk), List.getElem_range]
  have e2 : De (((List.range n).drop k).map X) ((List.range n).drop k) = 0 := by
    rw [hd]
    refine De_none fun t ht => ?_
    obtain ⟨i, hi, rfl⟩ := List.mem_map.mp ht
    have hm : k ≤ i ∧ i < n := by
      rw [← hd, List.mem_drop_iff_getElem] at hi
      obtain ⟨m, hm, e⟩ := hi
      rw [List.getElem_range] at e
      rw [List.length_range] at hm
      omega
    exact hz i hm.1 hm.2
  rw [e2] at e
  refine h.dt.mp ?_
  have hb := rat_pow_ne h.nz n
  have : b ^ n * De ((List.range n).map A) (List.range n) = 0 := by rw [← e]; grind
  rcases Rat.mul_eq_zero.mp this with z | z
  · exact absurd z hb
  · exact z
theorem sol_some {n N : Nat} {b : Rat} {X A : Nat → Nat → Rat} {D0 : Rat} {Ker Lin : (Nat → Rat) → Prop} (h : JI n N n b X A D0 Ker Lin) : D0 ≠ 0 := fun z => by
  have e := h.mn.det h.kn h.nz h.dg
  have hd : (List.range n).drop n = [] := List.drop_eq_nil_of_le (by rw [List.length_range]; exact Nat.le_refl n)
  rw [hd, h.dt.mpr z] at e
  have e2 : De ([].map X) [] = 1 := by
    show De [] [] = 1
    rw [De]
  rw [e2] at e
  have hb := rat_pow_ne h.nz n
  have h3 : b * b ^ n = 0 := by grind
  rcases Rat.mul_eq_zero.mp h3 with z | z
  · exact h.nz z
  · exact hb z
theorem res_at {n w : Nat} {b : Int} {Ws : List (List Int)} (hb : b ≠ 0) {i j : Nat} (hi : i < n) (hj : j < w) : rowQ ((resS n w b Ws).getD i []) j * (b : Rat) = fnW Ws i (n + j) := by
  have e : rowQ ((resS n w b Ws).getD i []) j = toQ (lowF ((if 0 < b then 1 else -1) * (Ws.getD i []).getD (n + j) 0) ((if 0 < b then 1 else -1) * b)) := by
    unfold resS rowQ
    rw [List.getD_eq_getElem?_getD (l := List.map _ _), List.getElem?_map, List.getElem?_range hi]
    show toQ (((List.range w).map fun j => lowF _ _).getD j (0, 1)) = _
    rw [List.getD_eq_getElem?_getD (l := List.map _ _), List.getElem?_map, List.getElem?_range hj]
    rfl
  have pos : 0 < (if 0 < b then 1 else -1) * b := by split <;> omega
  rw [e, toQ_low pos, Rat.divInt_eq_div]
  have hbq := int_ne hb
  have hpq := int_ne (show (if 0 < b then 1 else -1) * b ≠ 0 by omega)
  show _ = (((Ws.getD i []).getD (n + j) 0 : Int) : Rat)
  rw [Rat.intCast_mul, Rat.intCast_mul] at *
  have hs : (((if 0 < b then 1 else -1 : Int)) : Rat) ≠ 0 := by
    intro z
    rw [z] at hpq
    grind
  grind
theorem res_out {n w : Nat} {b : Int} {Ws : List (List Int)} {i j : Nat} (hi : i < n) (hj : w ≤ j) : rowQ ((resS n w b Ws).getD i []) j = 0 := by
  unfold resS rowQ
  rw [List.getD_eq_getElem?_getD (l := List.map _ _), List.getElem?_map, List.getElem?_range hi]
  show toQ (((List.range w).map fun j => lowF _ _).getD j (0, 1)) = _
  rw [List.getD_eq_getElem?_getD (l := List.map _ _), List.getElem?_eq_none (by rw [List.length_map, List.length_range]; exact hj)]
  show toQ (0, 1) = 0
  rw [toQ_int]
  rfl
theorem sol_end {n w s : Nat} {b : Int} {Ws : List (List Int)} {R S : List (List Fr)} {A : Nat → Nat → Rat} (ok : SideOk n w R S) (hb : b ≠ 0) (h : JI n (n + w) n (b : Rat) (fnW Ws) A (detQ n R) (KerS n w R S) (LinS n R S)) (hw : RowsOk n (n + w) s Ws) (hs : s ≤ 600) (hbs : b.natAbs < 2 ^ 600) :
    Sol n w R S (resS n w b Ws) where
  l := by unfold resS; rw [List.length_map, List.length_range]
  r := fun r hr => by
    obtain ⟨i, hi, rfl⟩ := List.mem_map.mp hr
    refine ⟨by rw [List.length_map, List.length_range], fun p hp => ?_⟩
    obtain ⟨j, hj, rfl⟩ := List.mem_map.mp hp
    have pos : 0 < (if 0 < b then 1 else -1) * b := by split <;> omega
    obtain ⟨r, _, er, _, sm⟩ := hw.at (List.mem_range.mp hi)
    have x1 := getD_small sm (n + j)
    have x2 : (r.getD (n + j) 0).natAbs < 2 ^ 600 := Nat.lt_of_lt_of_le x1 (Nat.pow_le_pow_right (by decide) (by omega))
    refine ⟨lowF_isF pos, low_sz ?_ ?_⟩
    · rw [er]
      split <;> omega
    · split <;> omega
  ker := fun j hj i hi => by
    have k := h.kr (fun c => if c < n then rowQ ((resS n w b Ws).getD c []) j else if c = n + j then -1 else 0) (fun l hl => by
      rw [dotQ_add]
      have e1 : dotQ n (fnW Ws l) (fun c => if c < n then rowQ ((resS n w b Ws).getD c []) j else if c = n + j then -1 else 0) = (b : Rat) * rowQ ((resS n w b Ws).getD l []) j := by
        rw [dotQ_one (i := l) hl (fun c hc hne => by rw [h.dg l c hl hc, if_neg (by omega)]; grind), h.dg l l hl hl, if_pos rfl, if_pos hl]
      have e2 : dotQ w (fun c => fnW Ws l (n + c)) (fun c => if n + c < n then rowQ ((resS n w b Ws).getD (n + c) []) j else if n + c = n + j then -1 else 0) = fnW Ws l (n + j) * (-1) := by
        rw [dotQ_one (i := j) hj (fun c hc hne => by rw [if_neg (by omega), if_neg (by omega)]; grind), if_neg (by omega), if_pos rfl]
      rw [e1, e2, ← res_at hb hl hj]
      grind)
    have k := k i hi
    obtain ⟨r, s, hr, hs2, e1, e2, lr, ls, he, hz, hg⟩ := ok.at hi
    rw [hg, dotQ_add] at k
    have e3 : dotQ n (rowQ (r ++ s)) (fun c => if c < n then rowQ ((resS n w b Ws).getD c []) j else if c = n + j then -1 else 0) = dotQ n (rowQ r) (fun l => rowQ ((resS n w b Ws).getD l []) j) := dotQ_congr fun c hc => by
      rw [rowQ_left lr hc, if_pos hc]
    have e4 : dotQ w (fun c => rowQ (r ++ s) (n + c)) (fun c => if n + c < n then rowQ ((resS n w b Ws).getD (n + c) []) j else if n + c = n + j then -1 else 0) = rowQ s j * (-1) := by
      rw [dotQ_one (i := j) hj (fun c hc hne => by rw [if_neg (by omega), if_neg (by omega)]; grind), if_neg (by omega), if_pos rfl, rowQ_right lr]
    rw [e3, e4] at k
    rw [e1, e2]
    grind
  lin := fun hid i hi j hj => by
    have l := h.ln i hi hid j hj
    rw [h.dg i j hi hj] at l
    have e : dotQ n (fun l => fnW Ws i (n + l)) (fun l => rowQ (R.getD l []) j) = (b : Rat) * dotQ n (rowQ ((resS n w b Ws).getD i [])) (fun l => rowQ (R.getD l []) j) := by
      rw [← dotQ_mulL]
      refine dotQ_congr fun c hc => ?_
      by_cases hcw : c < w
      · rw [← res_at hb hi hcw]
        grind
      · obtain ⟨r, _, er, lr, _⟩ := hw.at hi
        have z1 : fnW Ws i (n + c) = 0 := by
          unfold fnW
          rw [er]
          show ((r.getD (n + c) 0 : Int) : Rat) = 0
          rw [List.getD_eq_getElem?_getD, List.getElem?_eq_none (by omega)]
          rfl
        rw [z1, res_out hi (by omega)]
        grind
    rw [e] at l
    have hbq := int_ne hb
    split at l
    · rename_i hij
      rw [if_pos hij]
      grind
    · rename_i hij
      rw [if_neg hij]
      grind
end PD
namespace PD
open PySem PySem.Spec PyProof.Rows L2
/-! ### zip of a tuple and a list -/
def ItzM (K : PySem.W.Frag) (a b : Addr) : It where
  go := fun i H => ∃ (xs ys : List V) (x y : V), SqT K H a xs ∧ SqL K H b ys ∧ xs[i]? = some x ∧ ys[i]? = some y
  yld := fun i H v H' => ∃ (t : Addr) (x y : V), v = .ref t ∧ H t = none ∧ H' = upd H t (.tup [x, y]) ∧ (∀ xs, SqT K H a xs → xs[i]? = some x) ∧ ∀ ys, SqL K H b ys → ys[i]? = some y
  stop := fun i H => ∃ xs ys : List V, SqT K H a xs ∧ SqL K H b ys ∧ xs.length = i ∧ ys.length = i
structure ZmSt (z ti to p q a b : Addr) (i : Nat) (h : Heap) : Prop where
  zp : IsZip h z ti to .none
  its : IsTupOf2 h ti (.ref p) (.ref q)
  out : ∃ x y, IsTupOf2 h to x y
  one : h.IsTupleIter p a i
  two : h.IsListIter q b i
theorem five {z ti to p q c : Addr} (h : c ∈ [z, ti, to, p, q]) : c = z ∨ c = ti ∨ c = to ∨ c = p ∨ c = q := by simpa using h
theorem turn_zipM {P : Program} {w : World} {K : PySem.W.Frag} {elts : List Expr} {kk : Nat} {tpos : Pos} {z ti to p q a b : Addr} (S : ZipSep2 z ti to p q [p, a] [q, b]) (na : a ≠ p) (nb : b ≠ q) :
    Turn P w K (.Tuple elts kk tpos) (ItzM K a b) [z, ti, to, p, q] z (ZmSt z ti to p q a b) where
  mem := List.mem_cons_self
  obj := fun i h st c hc => by
    obtain ⟨x, y, ho⟩ := st.out
    obtain ⟨o1, g1, _, d1⟩ := st.one
    obtain ⟨o2, g2, _, d2⟩ := st.two
    rcases five hc with e | e | e | e | e <;> subst e
    · exact ⟨_, st.zp, fun v n => by cases n⟩
    · exact ⟨_, st.its, fun v n => by cases n⟩
    · exact ⟨_, ho, fun v n => by cases n⟩
    · exact ⟨o1, g1, fun v n => by rw [n] at d1; cases d1⟩
    · exact ⟨o2, g2, fun v n => by rw [n] at d2; cases d2⟩
  keep := fun i h h' st k => by
    obtain ⟨x, y, ho⟩ := st.out
    exact { zp := k z (by simp) _ st.zp, its := k ti (by simp) _ st.its, out := ⟨x, y, k to (by simp) _ ho⟩, one := st.one.at fun o e => k p (by simp) o e, two := st.two.at fun o e => k q (by simp) o e }
  item := by
    rintro X rfl rfl rfl calm i pins s σ H E I young st ⟨xs, ys, x, y, sx, sy, gx, gy⟩
    obtain ⟨ux, relx, isx, _⟩ := I.tuple sx
    obtain ⟨uy, rely, isy, _⟩ := I.list sy
    obtain ⟨u, hu, ru⟩ := relx.get gx
    obtain ⟨v, hv, rv⟩ := rely.get gy
    obtain ⟨x0, y0, ho⟩ := st.out
    have zlt : z < s.heap.objs.size := Heap.lt_size st.zp
    have lx : i < ux.toArray.size := by simpa using (List.getElem?_eq_some_iff.mp hu).1
    have ly : i < uy.toArray.size := by simpa using (List.getElem?_eq_some_iff.mp hv).1
    refine wpAny_pyNext_zipD2_item S (Draws.tuple (prog := X.prog) (w := X.w) (A := X.A.in1) (I.ok.hd calm) p a na ux.toArray) (Draws.list (prog := X.prog) (w := X.w) (A := X.A.in1) (I.ok.hd calm) q b nb uy.toArray)
      st.zp st.its ho ⟨st.one, isx⟩ ⟨st.two, isy.isList⟩ lx ly fun x1 x2 h1 tk e1 e2 zp1 out1 one1 two1 fresh1 _ same1 => ?_
    have ex : x1 = u := by
      have e1' : ux.toArray[i]? = some x1 := e1
      rw [show ux.toArray[i]? = some u by simpa using hu] at e1'
      exact (Option.some.inj e1').symm
    have ey : x2 = v := by
      have e2' : uy.toArray[i]? = some x2 := e2
      rw [show uy.toArray[i]? = some v by simpa using hv] at e2'
      exact (Option.some.inj e2').symm
    subst ex
    subst ey
    refine ⟨_, rfl, wpAny_letOwnedTupleGo_zip (s := { s with heap := h1, toks := tk }) zp1 fun h2 zp2 sb => ?_⟩
    generalize hN : s.heap.objs.size = N at *
    have pr : h2.get? N = some { cls := .type "tuple", data := .seq #[x1, x2] } := (sb.2 N (Nat.ne_of_gt zlt)).trans fresh1
    have J : Inv X pins σ (upd H N (.tup [x, y])) { s with heap := h2, toks := tk } :=
      I.turnedNew (ch := [z, ti, to, p, q]) (fun c o n g => by
        have n1 : c ≠ z := fun e => n (by rw [e]; simp)
        have n2 : c ≠ to := fun e => n (by rw [e]; simp)
        have n3 : c ≠ p := fun e => n (by rw [e]; simp)
        have n4 : c ≠ q := fun e => n (by rw [e]; simp)
        exact (sb.2 c n1).trans (same1 c o n1 n2 n3 n4 g)) young (Nat.le_of_eq hN) ⟨by show 2 ≤ sizeLine; decide, [x1, x2], .cons ru (.cons rv .nil), ⟨_, pr, rfl, _, rfl⟩⟩
    refine ⟨.ref N, _, J, rfl, ⟨N, x, y, rfl, I.hok.fresh (Nat.le_of_eq hN), rfl, fun l hl => ?_, fun l hl => ?_⟩, { zp := zp2, its := ?_, out := ⟨x1, x2, (sb.2 to S.TOz).trans out1⟩, one := ?_, two := ?_ }, fun c hc => ?_⟩
    · rw [I.tuple_inj hl sx]; exact gx
    · rw [I.list_inj hl sy]; exact gy
    · exact (sb.2 ti S.TIz).trans (same1 ti _ S.TIz S.TITO S.TIi1 S.TIi2 st.its)
    · exact one1.1.at fun o g => (sb.2 p S.zi1.symm).trans g
    · exact two1.1.at fun o g => (sb.2 q S.zi2.symm).trans g
    · have lt : c < N := by
        rcases five hc with e | e | e | e | e <;> subst e
        · exact zlt
        · rw [← hN]; exact Heap.lt_size st.its
        · rw [← hN]; exact Heap.lt_size ho
        · obtain ⟨_, g, _⟩ := st.one
          rw [← hN]; exact Heap.lt_size g
        · obtain ⟨_, g, _⟩ := st.two
          rw [← hN]; exact Heap.lt_size g
      exact (upd_ne (Nat.ne_of_lt lt)).trans (young c hc).1
  done := by
    rintro X rfl rfl rfl calm i pins s σ H E I young st ⟨xs, ys, sx, sy, lx, ly⟩
    obtain ⟨ux, relx, isx, _⟩ := I.tuple sx
    obtain ⟨uy, rely, isy, _⟩ := I.list sy
    obtain ⟨x0, y0, ho⟩ := st.out
    have kx : ux.toArray.size = i := by
      have := relx.length
      simp
      omega
    have ky : uy.toArray.size = i := by
      have := rely.length
      simp
      omega
    refine wpAny_pyNext_zipD2_end S (Draws.tuple (prog := X.prog) (w := X.w) (A := X.A.in1) (I.ok.hd calm) p a na ux.toArray) (Draws.list (prog := X.prog) (w := X.w) (A := X.A.in1) (I.ok.hd calm) q b nb uy.toArray)
      st.zp st.its ho ⟨st.one, isx⟩ ⟨st.two, isy.isList⟩ (Nat.le_of_eq kx.symm) (Nat.le_of_eq ky.symm) (.inl kx.symm) fun h1 tk same1 => ⟨rfl, ?_⟩
    exact I.turnedL (t' := tk) (ch := [z, ti, to, p, q]) (fun c o n g => by
      have n1 : c ≠ z := fun e => n (by rw [e]; simp)
      have n2 : c ≠ to := fun e => n (by rw [e]; simp)
      have n3 : c ≠ p := fun e => n (by rw [e]; simp)
      have n4 : c ≠ q := fun e => n (by rw [e]; simp)
      exact same1 c o n1 n2 n3 n4 g) young
  self := fun A i s Q E st h => wpAny_pyIter_zip st.zp h
def iZipM (K : PySem.W.Frag) (ta : TA) : TI := fun σ H R => ta σ H fun vs H1 => ∃ (a b : Addr) (xs ys : List V), vs = [.ref a, .ref b] ∧ SqT K H1 a xs ∧ SqL K H1 b ys ∧ R (ItzM K a b) H1
theorem pi_zipMK {X : Cx} {K : PySem.W.Frag} {e e2 : Expr} {ta : TA} {p pos tpos : Pos} {elts : List Expr} {kk : Nat} (hK : X.K = K) (hg : Gl X "zip") (hm : X.mg "zip" = none) (ha : PA X [e, e2] ta)
    (hs : starEach [e, e2] X.env = (false, eval e X.env) :: starEach [e2] X.env := by rfl) (hpl : (backTo pos (starEach [e2] X.env)).any (·.1) = false := by rfl) :
    PI X (.Tuple elts kk tpos) (.Call (.Name "zip" p) [e, e2] [] pos) (iZipM K ta) := by
  subst hK
  constructor
  intro pins s σ H R I wish
  refine Call_ (ld_blt I hg hm PyProof.Rows.boot_zip (PyProof.Rows.callWith_type1 (thn (ha.run pos pins s σ H _ I wish) ?_) hs hpl))
  rintro us s1 ⟨vs, H1, I1, rel, a, b, xs, ys, rfl, sx, sy, q⟩
  cases rel with
  | cons r0 r1 =>
    cases r1 with
    | cons r1 r2 =>
      cases r2
      cases r0
      cases r1
      obtain ⟨ux, _, isx, _⟩ := I1.tuple sx
      obtain ⟨uy, _, isy, _⟩ := I1.list sy
      have alt : a < s1.heap.objs.size := by
        obtain ⟨o, ho, _⟩ := id isx
        exact Heap.lt_size ho
      have blt : b < s1.heap.objs.size := isy.lt
      refine zip_begins2 (begins_tuple a ux.toArray) (begins_list b uy.toArray) (show s1.heap.IsTuple a ux.toArray from isx) isy.isList fun h1 zp its out g1 g2 _ same1 => wpAny_pyIter_zip zp ?_
      have J : Inv X pins σ H1 { s1 with heap := h1 } := I1.kept (t' := s1.toks) same1
      refine ⟨s1.heap.objs.size + 4, [s1.heap.objs.size + 4, s1.heap.objs.size + 2, s1.heap.objs.size + 3, s1.heap.objs.size, s1.heap.objs.size + 1], _, _, H1, rfl, J,
        turn_zipM (zip_sep2 (fp1 := [a]) (fp2 := [b]) (fun c hc => by rw [List.mem_singleton.mp hc]; exact alt) (fun c hc => by rw [List.mem_singleton.mp hc]; exact blt)) (Nat.ne_of_lt alt) (Nat.ne_of_lt (Nat.lt_succ_of_lt blt)),
        { zp := zp, its := its, out := ⟨_, _, out⟩, one := ⟨_, g1, rfl, rfl⟩, two := ⟨_, g2, rfl, rfl⟩ }, fun c hc => ?_, q⟩
      have le : s1.heap.objs.size ≤ c := by
        rcases five hc with e | e | e | e | e <;> subst e
        · exact Nat.le_add_right _ 4
        · exact Nat.le_add_right _ 2
        · exact Nat.le_add_right _ 3
        · exact Nat.le_refl _
        · exact Nat.le_add_right _ 1
      exact I1.fpOk le (I1.hok.fresh le)
section
variable {W : Wd} {δ : DS}
theorem src_zipM {M : Addr → Prop} {H1 : Hp} {a b : Addr} {vs us : List V} {ds es : List D} (w : Wf W M H1) (hs : SqT W.K H1 a vs) (hr : Reps W M H1 vs ds) (nb : ¬ M b) (hs' : H1 b = some (.lst us)) (hr' : Reps W M H1 us es) (hl : ds.length = es.length) : Src W M (ItzM W.K a b) H1 (zipD ds es) := fun M' hm hn i H2 k g => by
  have wg : Wg W M' H1 := ⟨w.g, fun b e => hm b (w.sm b e)⟩
  have wg2 : Wg W M' H2 := ⟨g, fun b e => hm b (w.sm b e)⟩
  have hs2 := sqT_keepM wg (k.mono hm) hs
  have hs3 : SqL W.K H2 b us := .inl (.inl (rdL_keepM w.wg k nb hs'))
  have hr2 : Reps W M' H2 vs ds := (hr.more hn).keepM wg (k.mono hm)
  have hr3 : Reps W M' H2 us es := (hr'.more hn).keepM wg (k.mono hm)
  refine ⟨fun hi => ⟨vs, us, hs2, hs3, ?_, ?_⟩, fun d hd => ?_⟩
  · rw [hr2.length]
    unfold zipD at hi
    rw [List.length_zipWith] at hi
    omega
  · rw [hr3.length]
    unfold zipD at hi
    rw [List.length_zipWith] at hi
    omega
  · obtain ⟨x, y, hx, hy, rfl⟩ := zipD_get hd
    obtain ⟨v, hv, rv⟩ := hr2.get hx
    obtain ⟨u, hu, ru⟩ := hr3.get hy
    refine ⟨⟨vs, us, v, u, hs2, hs3, hv, hu⟩, fun z H3 yy => ?_⟩
    obtain ⟨T, x1, y1, rfl, hT, rfl, f1, f2⟩ := yy
    have e1 := f1 vs hs2
    have e2 := f2 us hs3
    rw [hv] at e1
    rw [hu] at e2
    cases e1
    cases e2
    have kn : Keep W H2 (upd H2 T (.tup [v, u])) := Keep.new hT
    exact ⟨g.new hT, kn, .tup (SqT.of upd_same) (.cons (rv.keepG wg2 kn) (.cons (ru.keepG wg2 kn) .nil))⟩
theorem it_zipM {P : List D → Prop} {ta : TA} (h : PD.EvA W ta δ fun xs => ∃ ds es, xs = [.tup ds, .lst es] ∧ ds.length = es.length ∧ P (zipD ds es)) : IterD W (iZipM W.K ta) δ P := fun M σ H p R q => h M σ H p _ fun vs ds H1 g1 k1 r1 h1 => by
  obtain ⟨ds, es, rfl, hl, hP⟩ := h1
  cases r1 with
  | cons r1 r2 =>
    cases r2 with
    | cons r2 r3 =>
      cases r3
      cases r1 with
      | tup hs hr =>
        cases r2 with
        | lst nb hs' hr' => exact ⟨_, _, _, _, rfl, hs, .inl (.inl hs'), q _ H1 _ g1 k1 hP (src_zipM (p.wf.next g1 k1) hs hr nb hs' hr' hl)⟩
end
end PD
set_option Elab.async false
set_option linter.all false
set_option maxRecDepth 100000
set_option maxHeartbeats 4000000
namespace Lk60
open PySem PySem.Spec PyProof.Rows L2 PD PDX PDI PDT PDZ
/-- the next steps of a reading, by its form -/
local macro_rules | `(tactic| walk_at "pd1") => `(tactic| with_reducible (first | refine sx_drop ?_ | refine sx_ret ?_ | refine sd_seq ?_ | refine sd_next ?_ | refine sd_ret ?_ | refine sd_asg ?_ | refine sd_if ?_ | refine sd_drop ?_ | refine sd_par ?_ | refine sd_retN ?_ | refine ev_op ?_ | refine ev_int ?_ | refine ev_bl ?_ | refine ev_non ?_ | refine ev_str ?_ | refine ev_ty ?_ | refine ev_obj ?_ | refine ev_un ?_ | refine ev_cb ?_ | refine ev_call ?_ | refine ev_tup ?_ | refine ev_lst ?_ | refine ev_dnew ?_ | refine ev_disp1 ?_ | refine ev_make ?_ | refine ev_sl ?_ | refine ev_slL ?_ | refine eo_none ?_ | refine eo_some ?_ | refine ev_andV ?_ | refine ev_orV ?_ | refine ev_notV ?_ | refine ev_if ?_ | refine ev_chain ?_ | refine et_B ?_ | refine et_test ?_ | refine et_and ?_ | refine et_or ?_ | refine et_not ?_ | refine ea_nil ?_ | refine ea_cons ?_ | refine rd_plusI ?_ | refine rd_eqI ?_ | refine rd_neI ?_ | refine rd_eqSh ?_ | refine rd_neS (by first | assumption | decide +kernel) (by decide +kernel) ?_ | refine rd_eqS (by first | assumption | decide +kernel) (by decide +kernel) ?_ | refine rc_max2 ?_ | refine rc_min2 ?_ | refine rc_gcd ?_ | refine rc_abs ?_ | refine rc_int1 ?_ | refine rc_tupL ?_ | refine rc_lenT ?_ | refine rc_lenL ?_))
local macro_rules | `(tactic| walk_at "pd2") => `(tactic| first | refine ev_var rfl ?_ | refine rd_I0 ?_ | refine rd_I0b ?_ | refine ru_I ?_ | refine rd_isN ?_ | refine rd_notN ?_ | refine rd_ixT (j := 0) rfl rfl ?_ | refine rd_ixT (j := 1) rfl rfl ?_ | refine rd_ixL (j := 0) rfl rfl ?_ | refine rd_ixL (j := 1) rfl rfl ?_ | refine rd_I ?_ ?_)
local macro_rules | `(tactic| walk_at "pd3") => `(tactic| first | refine exb_t rfl ?_ | refine exb_f rfl ?_ | refine exo_f rfl ?_ | refine exo_t rfl ?_ | refine bt rfl ?_ | refine bf rfl ?_ | refine bof rfl ?_ | refine bot rfl ?_ | (with_reducible refine exb ?_) | refine And.intro (Nat.le_of_ble_eq_true rfl) ?_)
local macro_rules | `(tactic| walk_at "pd4") => `(tactic| first | refine rc_isiIJ (by first | assumption | rfl) ?_ | refine rc_isiBJ (by first | assumption | rfl) ?_ | refine rc_isiTJ (by first | assumption | rfl) ?_ | refine rc_isiSJ (by first | assumption | rfl) ?_ | refine rc_isiI (by first | assumption | rfl) ?_ | refine rc_isiB (by first | assumption | rfl) ?_ | refine rc_isiT (by first | assumption | rfl) ?_)
local macro_rules | `(tactic| walk_at "pd5") => `(tactic| with_reducible (refine rd_I (C := CPow) (cpow_ok (by decide)) ?_))
local macro_rules | `(tactic| walk_at "pd") => `(tactic| repeat' (first | walk_at "pd1" | walk_at "pd5" | walk_at "pd4" | walk_at "pd2" | walk_at "pd3"))
local macro_rules | `(tactic| walk_at "pdE") => `(tactic| repeat' (first | walk_at "pd5" | walk_at "pd4" | walk_at "pd2" | walk_at "pd3" | with_reducible (first | refine ev_op ?_ | refine ev_int ?_ | refine ev_bl ?_ | refine ev_tup ?_ | refine ea_nil ?_ | refine ea_cons ?_)))

def topS (i : Nat) : Stmt := PySem.Challenge.pw_unitgrids_k60_whole_inverses_and_solutio.main.body.getD i (.Pass ⟨0, 0, 0, 0⟩)
abbrev s__law_hand : Stmt := topS 23
theorem sc__law_hand : FnScope ["script", "cells", "cell"] ["script"] (defScope s__law_hand) := ⟨rfl, rfl, rfl, by decide +kernel, rfl, by decide +kernel, by decide +kernel⟩
abbrev s__law_lowest : Stmt := topS 25
theorem sc__law_lowest : FnScope ["top", "below", "one", "other"] ["top", "below"] (defScope s__law_lowest) := ⟨rfl, rfl, rfl, by decide +kernel, rfl, by decide +kernel, by decide +kernel⟩
abbrev s__law_draw : Stmt := topS 24
theorem sc__law_draw : FnScope ["hand", "many", "number", "cell", "digit"] ["hand", "many"] (defScope s__law_draw) := ⟨rfl, rfl, rfl, by decide +kernel, rfl, by decide +kernel, by decide +kernel⟩
abbrev s__law_square : Stmt := topS 28
theorem sc__law_square : FnScope ["hand", "many", "rows", "i", "row", "j", "number"] ["hand", "many"] (defScope s__law_square) := ⟨rfl, rfl, rfl, by decide +kernel, rfl, by decide +kernel, by decide +kernel⟩
abbrev s_is_pair : Stmt := topS 7
theorem sc_is_pair : FnScope ["thing"] ["thing"] (defScope s_is_pair) := ⟨rfl, rfl, rfl, by decide +kernel, rfl, by decide +kernel, by decide +kernel⟩
abbrev s_is_whole : Stmt := topS 6
theorem sc_is_whole : FnScope ["thing"] ["thing"] (defScope s_is_whole) := ⟨rfl, rfl, rfl, by decide +kernel, rfl, by decide +kernel, by decide +kernel⟩
abbrev s_is_fraction : Stmt := topS 8
theorem sc_is_fraction : FnScope ["thing", "top", "bottom"] ["thing"] (defScope s_is_fraction) := ⟨rfl, rfl, rfl, by decide +kernel, rfl, by decide +kernel, by decide +kernel⟩
abbrev s__is_square : Stmt := topS 13
theorem sc__is_square : FnScope ["thing", "row", "number"] ["thing"] (defScope s__is_square) := ⟨rfl, rfl, rfl, by decide +kernel, rfl, by decide +kernel, by decide +kernel⟩
abbrev s_check_square_numbers : Stmt := topS 14
theorem sc_check_square_numbers : FnScope ["numbers"] ["numbers"] (defScope s_check_square_numbers) := ⟨rfl, rfl, rfl, by decide +kernel, rfl, by decide +kernel, by decide +kernel⟩
abbrev s_as_wholes : Stmt := topS 10
theorem sc_as_wholes : FnScope ["fractions", "common", "fraction", "top", "bottom"] ["fractions"] (defScope s_as_wholes) := ⟨rfl, rfl, rfl, by decide +kernel, rfl, by decide +kernel, by decide +kernel⟩
abbrev s__cleared : Stmt := topS 19
theorem sc__cleared : FnScope ["row", "pivot", "k", "before", "number", "other"] ["row", "pivot", "k", "before"] (defScope s__cleared) := ⟨rfl, rfl, rfl, by decide +kernel, rfl, by decide +kernel, by decide +kernel⟩
abbrev s_lowest : Stmt := topS 9
theorem sc_lowest : FnScope ["top", "bottom", "common"] ["top", "bottom"] (defScope s_lowest) := ⟨rfl, rfl, rfl, by decide +kernel, rfl, by decide +kernel, by decide +kernel⟩
abbrev s__solved : Stmt := topS 18
theorem sc__solved : FnScope ["numbers", "sides", "rows", "many", "before", "k", "sign", "pivots", "row", "side", "i", "number"] ["numbers", "sides"] (defScope s__solved) := ⟨rfl, rfl, rfl, by decide +kernel, rfl, by decide +kernel, by decide +kernel⟩
abbrev s_inverse : Stmt := topS 20
theorem sc_inverse : FnScope ["numbers", "places", "i", "j"] ["numbers"] (defScope s_inverse) := ⟨rfl, rfl, rfl, by decide +kernel, rfl, by decide +kernel, by decide +kernel⟩
abbrev s_solution : Stmt := topS 21
theorem sc_solution : FnScope ["numbers", "right", "rows", "side", "row"] ["numbers", "right"] (defScope s_solution) := ⟨rfl, rfl, rfl, by decide +kernel, rfl, by decide +kernel, by decide +kernel⟩
abbrev s_whole_determinant : Stmt := topS 16
theorem sc_whole_determinant : FnScope ["rows", "sign", "before", "left", "pivots", "pivot", "others", "row", "i", "number", "ahead"] ["rows"] (defScope s_whole_determinant) := ⟨rfl, rfl, rfl, by decide +kernel, rfl, by decide +kernel, by decide +kernel⟩
abbrev s_determinant : Stmt := topS 15
theorem sc_determinant : FnScope ["numbers", "rows", "below", "row", "wholes", "common"] ["numbers"] (defScope s_determinant) := ⟨rfl, rfl, rfl, by decide +kernel, rfl, by decide +kernel, by decide +kernel⟩
abbrev s__law_plus : Stmt := topS 26
theorem sc__law_plus : FnScope ["one", "other"] ["one", "other"] (defScope s__law_plus) := ⟨rfl, rfl, rfl, by decide +kernel, rfl, by decide +kernel, by decide +kernel⟩
abbrev s__law_times : Stmt := topS 27
theorem sc__law_times : FnScope ["one", "other"] ["one", "other"] (defScope s__law_times) := ⟨rfl, rfl, rfl, by decide +kernel, rfl, by decide +kernel, by decide +kernel⟩
abbrev s__law_dot : Stmt := topS 29
theorem sc__law_dot : FnScope ["one", "other", "total", "first", "second"] ["one", "other"] (defScope s__law_dot) := ⟨rfl, rfl, rfl, by decide +kernel, rfl, by decide +kernel, by decide +kernel⟩
abbrev s__law_product : Stmt := topS 30
theorem sc__law_product : FnScope ["one", "other", "columns", "j", "row", "column"] ["one", "other"] (defScope s__law_product) := ⟨rfl, rfl, rfl, by decide +kernel, rfl, by decide +kernel, by decide +kernel⟩
abbrev s_law : Stmt := topS 31
theorem sc_law : FnScope ["script", "hand", "turn", "many", "rows", "right", "turned", "solved", "one", "i", "row", "j", "other"] ["script"] (defScope s_law) := ⟨rfl, rfl, rfl, by decide +kernel, rfl, by decide +kernel, by decide +kernel⟩
structure Txt (K : PySem.W.Frag) (mg : Str → Option Value) where
  D__law_hand : DefT K mg "_law_hand" s__law_hand ["script"]
  D__law_lowest : DefT K mg "_law_lowest" s__law_lowest ["top", "below"]
  D__law_draw : DefT K mg "_law_draw" s__law_draw ["hand", "many"]
  D__law_square : DefT K mg "_law_square" s__law_square ["hand", "many"]
  D_is_pair : DefT K mg "is_pair" s_is_pair ["thing"]
  D_is_whole : DefT K mg "is_whole" s_is_whole ["thing"]
  D_is_fraction : DefT K mg "is_fraction" s_is_fraction ["thing"]
  D__is_square : DefT K mg "_is_square" s__is_square ["thing"]
  D_check_square_numbers : DefT K mg "check_square_numbers" s_check_square_numbers ["numbers"]
  D_as_wholes : DefT K mg "as_wholes" s_as_wholes ["fractions"]
  D__cleared : DefT K mg "_cleared" s__cleared ["row", "pivot", "k", "before"]
  D_lowest : DefT K mg "lowest" s_lowest ["top", "bottom"]
  D__solved : DefT K mg "_solved" s__solved ["numbers", "sides"]
  D_inverse : DefT K mg "inverse" s_inverse ["numbers"]
  D_solution : DefT K mg "solution" s_solution ["numbers", "right"]
  D_whole_determinant : DefT K mg "whole_determinant" s_whole_determinant ["rows"]
  D_determinant : DefT K mg "determinant" s_determinant ["numbers"]
  D__law_plus : DefT K mg "_law_plus" s__law_plus ["one", "other"]
  D__law_times : DefT K mg "_law_times" s__law_times ["one", "other"]
  D__law_dot : DefT K mg "_law_dot" s__law_dot ["one", "other"]
  D__law_product : DefT K mg "_law_product" s__law_product ["one", "other"]
  D_law : DefT K mg "law" s_law ["script"]
  t_MOST_ROWS : Tok
  c_MOST_ROWS : mg "MOST_ROWS" = some (.int 10 t_MOST_ROWS)
  n_abs : mg "abs" = none
  n_all : mg "all" = none
  n_bool : mg "bool" = none
  n_enumerate : mg "enumerate" = none
  n_int : mg "int" = none
  n_isinstance : mg "isinstance" = none
  n_len : mg "len" = none
  n_range : mg "range" = none
  n_tuple : mg "tuple" = none
  n_zip : mg "zip" = none
  v_gcd : mg "gcd" = some (.builtin "math.gcd")
  v_lcm : mg "lcm" = some (.builtin "math.lcm")
section
variable {Pg : Program} {w : World} {K : PySem.W.Frag} {mg : Str → Option Value} {base : Heap}
/-! ### _law_hand -/
-- the hand
theorem ok__law_hand (T : Txt K mg) : FnOk Pg w K mg base CX0 1 T.D__law_hand.f T.D__law_hand.d ["script"] (spHand K) := by
  refine T.D__law_hand.F.ok (k := 0) sc__law_hand (fun vs H Q E h => by obtain ⟨_, _, rfl, _⟩ := h; rfl) (fun cdv A outer s H vs Q E hr h => ?_)
  refine ⟨_, (pss_cons (ps_setLc (i := 1) (own := [("cell", 2)]) rfl sc__law_hand.nd rfl rfl (sw_true rfl rfl rfl (by decide +kernel)) (pi_seqK (K := K) rfl (pe_slice (sl_listK (K := K) rfl) (pv 0) po_none (po_some pe_int))) (blkOk_by (N := ["script", "cells", "cell"]) (sc := defScope s__law_hand) (by decide +kernel)) (fun _ _ _ _ _ => (pg_name (i := 2) sc__law_hand.nd rfl (by first | exact Or.inl rfl | exact Or.inr rfl))) (fun _ _ _ _ _ => pts_nil) (fun _ _ _ _ _ => (pe_callB call_abs (by rfl) T.n_abs (by decide +kernel) (pa_cons (pe_callTy call_int1 (by rfl) T.n_int (by decide +kernel) (pa_cons (pv 2) pa_nil)) pa_nil))))
    (pss_one (ps_ret (pe_lst (pa_cons (pv 1) (pa_cons pe_int (pa_cons pe_int (pa_cons (pe_op (op_plusK (K := K) rfl) pe_int (pe_callB (call_lenK (K := K) rfl) (by rfl) T.n_len (by decide +kernel) (pa_cons (pv 1) pa_nil))) (pa_cons pe_int pa_nil))))))))), ?_⟩
  try dsimp only [cxOf, Cx.blk, Cx.nox, Cx.wish]
  refine hand_body h (fun i δ => ⟨[2], by simp, gd_name ?_⟩) (fun cs hl => ?_)
  · walk_at "pd"
    exact ⟨_, rfl⟩
  · walk_at "pd"
    refine rc_lenL (W := quietW K) ?_
    refine rd_plusI (W := quietW K) ?_
    walk_at "pd"
    rw [List.length_map]
/-! ### _law_lowest -/
def F__law_lowest : FD := fun ds P => ∃ a b : Int, ds = [.int a, .int b] ∧ 0 < b ∧ b.natAbs < 2 ^ 8000 ∧ P (fr (lowF a b))
theorem len__law_lowest : ∀ ds P, F__law_lowest ds P → ds.length = 2 := by (intro ds P h; first | exact h | (obtain ⟨_, rfl, _⟩ := h; rfl) | (obtain ⟨_, _, rfl, _⟩ := h; rfl) | (obtain ⟨_, _, _, rfl, _⟩ := h; rfl) | (obtain ⟨_, _, _, _, rfl, _⟩ := h; rfl) | (obtain ⟨_, _, _, _, _, rfl, _⟩ := h; rfl) | (obtain ⟨_, _, _, _, _, _, rfl, _⟩ := h; rfl) | (obtain ⟨_, _, _, _, _, _, _, rfl, _⟩ := h; rfl) | (obtain ⟨_, _, _, _, _, _, _, _, rfl, _⟩ := h; rfl) | (obtain ⟨rfl, _⟩ := h; rfl))
theorem ok__law_lowest (T : Txt K mg) : FnOk Pg w K mg base CX0 1 T.D__law_lowest.f T.D__law_lowest.d ["top", "below"] ((spD K F__law_lowest)) := by
  refine T.D__law_lowest.F.ok (k := 0) sc__law_lowest (spD_len (len__law_lowest)) (fun cdv A outer s H vs Q E hr h => ?_)
  refine ⟨_, (pss_cons (ps_par (i := 2) (j := 3) (by rfl) sc__law_lowest.nd rfl rfl (by decide) rfl rfl (pa_cons (pe_callB call_abs (by rfl) T.n_abs (by decide +kernel) (pa_cons (pv 0) pa_nil)) (pa_cons (pv 1) pa_nil)) (by rfl))
    (pss_cons (ps_while PassesOwn.never (pt_cmpR op_gt (pv 3) pe_int (nomark _)) (pss_one (ps_par (i := 2) (j := 3) (by rfl) sc__law_lowest.nd rfl rfl (by decide) rfl rfl (pa_cons (pv 3) (pa_cons (pe_op op_mod (pe_callTy call_int1 (by rfl) T.n_int (by decide +kernel) (pa_cons (pv 2) pa_nil)) (pv 3)) pa_nil)) (by rfl))))
    (pss_one (ps_ret (pe_tup (pa_cons (pe_op op_fdivW (pv 0) (pv 2)) (pa_cons (pe_op op_fdivW (pv 1) (pv 2)) pa_nil))))))), ?_⟩
  try dsimp only [cxOf, Cx.blk, Cx.nox, Cx.wish]
  (refine body_of h fun W ds P eK f => ?_); subst eK
  obtain ⟨a, b, rfl, hb, hs, hP⟩ := f
  walk_at "pd"
  refine ⟨_, _, rfl, ?_⟩
  walk_at "pd"
  refine sd_while (fun δ => ∃ x y, δ = [some (.int a), some (.int b), some (.int x), some (.int y)] ∧ 0 ≤ x ∧ 0 ≤ y ∧ Nat.gcd x.natAbs y.natAbs = gcdI a b) (fun δ => match δ with | [_, _, _, some (.int y)] => y.natAbs | _ => 0) ⟨_, _, rfl, ?_, ?_, ?_⟩ ?_
  · split <;> omega
  · omega
  · show Nat.gcd _ _ = Nat.gcd _ _
    congr 1
    split <;> omega
  · rintro δ ⟨x, y, rfl, hx, hy, hg⟩
    walk_at "pd"
    refine ⟨fun hb1 => ?_, fun hb1 => ?_⟩
    · have hy1 := of_decide_eq_true hb1
      walk_at "pd"
      · exact hy1
      · refine ⟨_, _, rfl, ?_⟩
        refine ⟨⟨y, x % y, rfl, hy, Int.emod_nonneg _ (by omega), ?_⟩, ?_⟩
        · rw [← hg, Int.natAbs_emod_of_nonneg hx]
          rw [Nat.gcd_comm y.natAbs, ← Nat.gcd_rec, Nat.gcd_comm]
        · show (x % y).natAbs < y.natAbs
          have h1 := Int.emod_nonneg x (b := y) (by omega)
          have h2 := Int.emod_lt_of_pos x hy1
          omega
    · have hy1 := of_decide_eq_false hb1
      have hy0 : y = 0 := by omega
      subst hy0
      have hxg : x = (gcdI a b : Int) := by
        rw [← hg]
        simp
        omega
      walk_at "pd"
      · rw [hxg]; exact div_gcd hb hs
      · rw [hxg]; exact div_gcd hb hs
      · rw [hxg]; exact hP
/-! ### _law_draw -/
def F__law_draw : FD := fun ds P => ∃ n : Int, ds = [.st, .int n] ∧ 0 < n ∧ n.natAbs < 2 ^ 8000 ∧ ∀ r, 0 ≤ r → r < n → P (.int r)
theorem draw_lit {n : Int} {P : D → Prop} (h : (decide (0 < n) && decide (n < 10 ^ 41)) = true) (hP : ∀ r, 0 ≤ r → r < n → P (.int r)) : F__law_draw [.st, .int n] P := by
  rw [Bool.and_eq_true] at h
  have h1 := of_decide_eq_true h.1
  have h2 := of_decide_eq_true h.2
  have h3 : n.natAbs < 2 ^ 140 := by
    have : ((10 : Int) ^ 41).natAbs < 2 ^ 140 := by decide
    omega
  exact ⟨n, rfl, h1, lt_pow h3 (by decide), hP⟩
theorem draw_small {n : Int} {P : D → Prop} (h0 : 0 < n) (h1 : n < 1000000000000) (hP : ∀ r, 0 ≤ r → r < n → P (.int r)) : F__law_draw [.st, .int n] P := by
  have h3 : n.natAbs < 2 ^ 60 := by
    have : (2 : Nat) ^ 60 = 1152921504606846976 := by decide
    omega
  exact ⟨n, rfl, h0, lt_pow h3 (by decide), hP⟩
theorem dr_ix {K : PySem.W.Frag} {σ : L2.St} {H : Hp} {p : Addr} {xs : List V} {te ti : TE} {k : Int} {v : V} (h0 : Evl.Ev te σ H (.ref p)) (h1 : Evl.Ev ti σ H (.int k)) (hs : H p = some (.lst xs)) (hv : atI xs k = some v) : Evl.Ev (tOp (rIx K) te ti) σ H v :=
  Evl.ev_op h0 h1 fun H1 e _ q => .inl ⟨p, xs, k, v, rfl, rfl, .inl (.inl (e _ _ hs)), hv, q H1 (Evl.Ex.refl H1)⟩
theorem dr_eq {K : PySem.W.Frag} {σ : L2.St} {H : Hp} {ta tb : TE} {i j : Int} (ha : Evl.Ev ta σ H (.int i)) (hb : Evl.Ev tb σ H (.int j)) : Evl.Ev (tOp (rEqD K) ta tb) σ H (.bl (decide (i = j))) :=
  Evl.ev_op ha hb fun H1 e _ q => ⟨.int i, .int j, .int i, .int j, by simp [SeqAt.shaped, PyData.canLay0, PyData.depth], by simp [SeqAt.shaped, PyData.canLay0, PyData.depth], by
    have h := q H1 (Evl.Ex.refl H1)
    simp only [PyData.eqv]
    exact h⟩
theorem dr_len {K : PySem.W.Frag} {σ : L2.St} {H : Hp} {te : TE} {p : Addr} {xs : List V} (h : Evl.Ev te σ H (.ref p)) (hs : H p = some (.lst xs)) :
    Evl.Ev (tCB (fun xs H Q => ∃ x n, xs = [x] ∧ LenV K x H n ∧ Q (.int n) H) (tCons te tNil)) σ H (.int (xs.length : Int)) := fun H1 e Q q =>
  h H1 e _ fun H2 e2 => ⟨_, _, rfl, .inl ⟨xs, .inl (.inl ((e.trans e2) _ _ hs)), rfl⟩, q H2 e2⟩
theorem dr_plus {K : PySem.W.Frag} {σ : L2.St} {H : Hp} {ta tb : TE} {i j : Int} (ha : Evl.Ev ta σ H (.int i)) (hb : Evl.Ev tb σ H (.int j)) : Evl.Ev (tOp (rPlus K) ta tb) σ H (.int (i + j)) :=
  Evl.ev_op ha hb fun H1 _ _ q => .inl ⟨i, j, rfl, rfl, q H1 (Evl.Ex.refl H1)⟩
theorem dr_int {σ : L2.St} {H : Hp} {te : TE} {i : Int} (h : Evl.Ev te σ H (.int i)) : Evl.Ev (tCB (fun xs H Q => (∃ i, xs = [.int i] ∧ Q (.int i) H) ∨ ∃ k, xs = [.bl k] ∧ Q (.int (if k then 1 else 0)) H) (tCons te tNil)) σ H (.int i) := fun H1 e _ q =>
  h H1 e _ fun H2 e2 => .inl ⟨i, rfl, q H2 e2⟩
/-- what a draw knows of the heap: entered at H0 -/
structure DrS (W : Wd) (H0 : Hp) (s : Addr) (ns : List Int) (H : Hp) (i c m k : Int) : Prop where
  kp : Keep W H0 H
  hs : H s = some (.lst [.ref W.b, .int i, .int c, .int m, .int k])
  hb : H W.b = some (.lst (ns.map V.int))
  i0 : 0 ≤ i
  i1 : i ≤ 100
  c0 : 0 ≤ c
  m0 : 0 ≤ m
  m1 : m < 2147483647
theorem DrS.ex {W : Wd} {H0 H H' : Hp} {s : Addr} {ns : List Int} {i c m k : Int} (d : DrS W H0 s ns H i c m k) (e : Evl.Ex H H') : DrS W H0 s ns H' i c m k :=
  ⟨d.kp.trans fun a o _ h => e a o h, e _ _ d.hs, e _ _ d.hb, d.i0, d.i1, d.c0, d.m0, d.m1⟩
theorem DrS.set {W : Wd} {H0 H : Hp} {s : Addr} {ns : List Int} {i c m k i' c' m' k' : Int} (d : DrS W H0 s ns H i c m k) (hW : W.s = some s) (hne : W.b ≠ s) (h1 : 0 ≤ i') (h2 : i' ≤ 100) (h3 : 0 ≤ c') (h4 : 0 ≤ m') (h5 : m' < 2147483647) :
    DrS W H0 s ns (upd H s (.lst [.ref W.b, .int i', .int c', .int m', .int k'])) i' c' m' k' :=
  ⟨fun a o n h => by
    have e : a ≠ s := fun z => n (by rw [z]; exact hW)
    rw [upd_ne e]
    exact d.kp a o n h, upd_same, by rw [upd_ne hne]; exact d.hb, h1, h2, h3, h4, h5⟩
theorem dr_mul {σ : L2.St} {H : Hp} {ta tb : TE} {i j : Int} (ha : Evl.Ev ta σ H (.int i)) (hb : Evl.Ev tb σ H (.int j)) (h0 : -18446744073709551616 < j) (h1 : j < 18446744073709551616) : Evl.Ev (tOp (rI CMul fun i j => .int (i * j)) ta tb) σ H (.int (i * j)) :=
  Evl.ev_op ha hb (Evl.rv_I (C := CMul) (.inr ⟨by
    have : (2 : Int) ^ 64 = 18446744073709551616 := by decide
    omega, by
    have : (2 : Int) ^ 64 = 18446744073709551616 := by decide
    omega⟩))
theorem dr_mulL {σ : L2.St} {H : Hp} {ta tb : TE} {i j : Int} (ha : Evl.Ev ta σ H (.int i)) (hb : Evl.Ev tb σ H (.int j)) (h0 : -18446744073709551616 < i) (h1 : i < 18446744073709551616) : Evl.Ev (tOp (rI CMul fun i j => .int (i * j)) ta tb) σ H (.int (i * j)) :=
  Evl.ev_op ha hb (Evl.rv_I (C := CMul) (.inl ⟨by
    have : (2 : Int) ^ 64 = 18446744073709551616 := by decide
    omega, by
    have : (2 : Int) ^ 64 = 18446744073709551616 := by decide
    omega⟩))
theorem dr_mod {σ : L2.St} {H : Hp} {ta tb : TE} {i j : Int} (ha : Evl.Ev ta σ H (.int i)) (hb : Evl.Ev tb σ H (.int j)) (h : 0 < j) : Evl.Ev (tOp (rI (fun _ j => 0 < j) fun i j => .int (i % j)) ta tb) σ H (.int (i % j)) := Evl.ev_op ha hb (Evl.rv_I (C := fun _ j => 0 < j) h)
theorem dr_div {σ : L2.St} {H : Hp} {ta tb : TE} {i j : Int} (ha : Evl.Ev ta σ H (.int i)) (hb : Evl.Ev tb σ H (.int j)) (h : 0 < j) (h2 : j < 1000000000000) : Evl.Ev (tOp (rI CDivW fun i j => .int (i / j)) ta tb) σ H (.int (i / j)) := Evl.ev_op ha hb (Evl.rv_I (div_small h h2))
theorem seq_tail {t u : TS} {D : Ends} {σ : L2.St} {H : Hp} (Mid : L2.St → Hp → Prop) (tail : ∀ σ' H', Mid σ' H' → u D σ' H') (main : (∀ σ' H', Mid σ' H' → u D σ' H') → tSeq t u D σ H) : tSeq t u D σ H := main tail
theorem len__law_draw : ∀ ds P, F__law_draw ds P → ds.length = 2 := by (intro ds P h; first | exact h | (obtain ⟨_, rfl, _⟩ := h; rfl) | (obtain ⟨_, _, rfl, _⟩ := h; rfl) | (obtain ⟨_, _, _, rfl, _⟩ := h; rfl) | (obtain ⟨_, _, _, _, rfl, _⟩ := h; rfl) | (obtain ⟨_, _, _, _, _, rfl, _⟩ := h; rfl) | (obtain ⟨_, _, _, _, _, _, rfl, _⟩ := h; rfl) | (obtain ⟨_, _, _, _, _, _, _, rfl, _⟩ := h; rfl) | (obtain ⟨_, _, _, _, _, _, _, _, rfl, _⟩ := h; rfl) | (obtain ⟨rfl, _⟩ := h; rfl))
theorem ok__law_draw (T : Txt K mg) : FnOk Pg w K mg base CX0 1 T.D__law_draw.f T.D__law_draw.d ["hand", "many"] ((spD K F__law_draw)) := by
  refine T.D__law_draw.F.ok (k := 0) sc__law_draw (spD_len (len__law_draw)) (fun cdv A outer s H vs Q E hr h => ?_)
  refine ⟨_, (pss_cons (ps_if (PW.pt (pw_and (pt_cmpR (op_eqDK (K := K) rfl (hr_u hr)) (pe_ix (ix_seqK (K := K) rfl) (pv 0) pe_int (fun _ _ => rfl)) pe_int (nomark _)) (pw_and1 (pt_cmpR op_lt (pe_ix (ix_seqK (K := K) rfl) (pv 0) pe_int (fun _ _ => rfl)) (pe_callB (call_lenK (K := K) rfl) (by rfl) T.n_len (by decide +kernel) (pa_cons (pe_ix (ix_seqK (K := K) rfl) (pv 0) pe_int (fun _ _ => rfl)) pa_nil)) (nomark _)))))
      (pss_cons (ps_set (i := 3) sc__law_draw.nd rfl (by first | exact Or.inl rfl | exact Or.inr rfl) (pe_ix (ix_seqK (K := K) rfl) (pe_ix (ix_seqK (K := K) rfl) (pv 0) pe_int (fun _ _ => rfl)) (pe_ix (ix_seqK (K := K) rfl) (pv 0) pe_int (fun _ _ => rfl)) (fun _ _ => rfl)))
    (pss_cons (ps_asg (pe_op (op_plusK (K := K) rfl) (pe_ix (ix_seqK (K := K) rfl) (pv 0) pe_int (fun _ _ => rfl)) pe_int) (pg_sub (pv 0) pe_int set_list))
    (pss_cons (ps_asg (pe_op op_mod (pe_callTy call_int1 (by rfl) T.n_int (by decide +kernel) (pa_cons (pe_op (op_plusK (K := K) rfl) (pe_op (op_plusK (K := K) rfl) (pe_op op_mul (pe_ix (ix_seqK (K := K) rfl) (pv 0) pe_int (fun _ _ => rfl)) pe_int) (pv 3)) pe_int) pa_nil)) pe_int) (pg_sub (pv 0) pe_int set_list))
    (pss_one (ps_if (pt_cmpR op_ge (pv 3) (pe_op op_pow pe_int pe_int) (nomark _))
      (pss_one (ps_asg (pv 3) (pg_sub (pv 0) pe_int set_list)))
      pss_nil)))))
      pss_nil)
    (pss_cons (ps_if (pt_cmpR op_gt (pe_ix (ix_seqK (K := K) rfl) (pv 0) pe_int (fun _ _ => rfl)) pe_int (nomark _))
      (pss_cons (ps_set (i := 4) sc__law_draw.nd rfl (by first | exact Or.inl rfl | exact Or.inr rfl) (pe_op op_mod (pe_callTy call_int1 (by rfl) T.n_int (by decide +kernel) (pa_cons (pe_ix (ix_seqK (K := K) rfl) (pv 0) pe_int (fun _ _ => rfl)) pa_nil)) (pv 1)))
    (pss_cons (ps_asg (pe_op op_fdivW (pe_ix (ix_seqK (K := K) rfl) (pv 0) pe_int (fun _ _ => rfl)) (pv 1)) (pg_sub (pv 0) pe_int set_list))
    (pss_one (ps_ret (pv 4)))))
      pss_nil)
    (pss_cons (ps_asg (pe_op (op_plusK (K := K) rfl) (pe_ix (ix_seqK (K := K) rfl) (pv 0) pe_int (fun _ _ => rfl)) pe_int) (pg_sub (pv 0) pe_int set_list))
    (pss_cons (ps_set (i := 2) sc__law_draw.nd rfl (by first | exact Or.inl rfl | exact Or.inr rfl) (pe_op op_mod (pe_callTy call_int1 (by rfl) T.n_int (by decide +kernel) (pa_cons (pe_op op_mul (pe_callTy call_int1 (by rfl) T.n_int (by decide +kernel) (pa_cons (pe_op (op_plusK (K := K) rfl) (pe_ix (ix_seqK (K := K) rfl) (pv 0) pe_int (fun _ _ => rfl)) (pe_op op_mul pe_int (pe_ix (ix_seqK (K := K) rfl) (pv 0) pe_int (fun _ _ => rfl)))) pa_nil)) pe_int) pa_nil)) pe_int))
    (pss_cons (ps_set (i := 2) sc__law_draw.nd rfl (by first | exact Or.inl rfl | exact Or.inr rfl) (pe_op op_mod (pe_callTy call_int1 (by rfl) T.n_int (by decide +kernel) (pa_cons (pe_op op_mul (pv 2) (pe_op (op_plusK (K := K) rfl) (pe_op op_fdivW (pv 2) pe_int) pe_int)) pa_nil)) pe_int))
    (pss_cons (ps_set (i := 2) sc__law_draw.nd rfl (by first | exact Or.inl rfl | exact Or.inr rfl) (pe_op op_mod (pe_callTy call_int1 (by rfl) T.n_int (by decide +kernel) (pa_cons (pe_op op_mul (pv 2) (pe_op (op_plusK (K := K) rfl) (pe_op op_fdivW (pv 2) pe_int) pe_int)) pa_nil)) pe_int))
    (pss_one (ps_ret (pe_op op_mod (pe_callTy call_int1 (by rfl) T.n_int (by decide +kernel) (pa_cons (pe_op op_fdivW (pv 2) pe_int) pa_nil)) (pv 1)))))))))), ?_⟩
  try dsimp only [cxOf, Cx.blk, Cx.nox, Cx.wish]
  obtain ⟨W, M, ds, P, eK, wf, hr1, ⟨n, rfl, hn, hn2, hP⟩, q⟩ := h
  subst eK
  cases hr1 with
  | cons r1 r2 =>
  cases r2 with
  | cons r2 r3 =>
  cases r3
  cases r2
  cases r1 with
  | @st s hW =>
  obtain ⟨ns, i, c, ⟨m, k⟩, hs, hne, hb, i0, i1, hl, c0, m0, m1⟩ := wf.g s hW
  have dS : DrS W H s ns H i c m k := ⟨Keep.refl H, hs, hb, i0, i1, c0, m0, m1⟩
  have ok : ∀ {H' : Hp} {i c m k : Int}, DrS W H s ns H' i c m k → ∀ r, 0 ≤ r → r < n → Q (.int r) H' := fun {H' i c m k} d r h0 h1 => q (.int r) (.int r) H' (fun s' e => by
    have e2 : s' = s := Option.some.inj (e.symm.trans hW)
    subst e2
    exact ⟨ns, i, c, (m, k), d.hs, hne, d.hb, d.i0, d.i1, hl, d.c0, d.m0, d.m1⟩) d.kp (.int r) (hP r h0 h1)
  have at0 : ∀ {i c m k : Int}, atI [V.ref W.b, .int i, .int c, .int m, .int k] 0 = some (.ref W.b) := atI_nat (j := 0) rfl
  have at1 : ∀ {i c m k : Int}, atI [V.ref W.b, .int i, .int c, .int m, .int k] 1 = some (.int i) := atI_nat (j := 1) rfl
  have at2 : ∀ {i c m k : Int}, atI [V.ref W.b, .int i, .int c, .int m, .int k] 2 = some (.int c) := atI_nat (j := 2) rfl
  have at3 : ∀ {i c m k : Int}, atI [V.ref W.b, .int i, .int c, .int m, .int k] 3 = some (.int m) := atI_nat (j := 3) rfl
  have at4 : ∀ {i c m k : Int}, atI [V.ref W.b, .int i, .int c, .int m, .int k] 4 = some (.int k) := atI_nat (j := 4) rfl
  have x0 : ∀ {σ : L2.St} {H' : Hp} {i c m k : Int}, DrS W H s ns H' i c m k → σ[0]? = some (some (.ref s)) → Evl.Ev (tOp (rIx W.K) (tVar 0) (tC (V.int 0))) σ H' (.ref W.b) := fun d h => dr_ix (Evl.ev_var h) Evl.ev_c d.hs at0
  have x1 : ∀ {σ : L2.St} {H' : Hp} {i c m k : Int}, DrS W H s ns H' i c m k → σ[0]? = some (some (.ref s)) → Evl.Ev (tOp (rIx W.K) (tVar 0) (tC (V.int 1))) σ H' (.int i) := fun d h => dr_ix (Evl.ev_var h) Evl.ev_c d.hs at1
  have x2 : ∀ {σ : L2.St} {H' : Hp} {i c m k : Int}, DrS W H s ns H' i c m k → σ[0]? = some (some (.ref s)) → Evl.Ev (tOp (rIx W.K) (tVar 0) (tC (V.int 2))) σ H' (.int c) := fun d h => dr_ix (Evl.ev_var h) Evl.ev_c d.hs at2
  have x3 : ∀ {σ : L2.St} {H' : Hp} {i c m k : Int}, DrS W H s ns H' i c m k → σ[0]? = some (some (.ref s)) → Evl.Ev (tOp (rIx W.K) (tVar 0) (tC (V.int 3))) σ H' (.int m) := fun d h => dr_ix (Evl.ev_var h) Evl.ev_c d.hs at3
  have x4 : ∀ {σ : L2.St} {H' : Hp} {i c m k : Int}, DrS W H s ns H' i c m k → σ[0]? = some (some (.ref s)) → Evl.Ev (tOp (rIx W.K) (tVar 0) (tC (V.int 4))) σ H' (.int k) := fun d h => dr_ix (Evl.ev_var h) Evl.ev_c d.hs at4
  have put : ∀ {σ : L2.St} {H' : Hp} {i c m k i' c' m' k' : Int} {y z : Int} {j : Nat} {te : TE} {D : Ends}, DrS W H s ns H' i c m k → σ[0]? = some (some (.ref s)) → Evl.Ev te σ H' (.int z) → y = (j : Int) → j < 5 →
      [V.ref W.b, .int i, .int c, .int m, .int k].set j (.int z) = [V.ref W.b, .int i', .int c', .int m', .int k'] → 0 ≤ i' → i' ≤ 100 → 0 ≤ c' → 0 ≤ m' → m' < 2147483647 → (∀ H2, DrS W H s ns H2 i' c' m' k' → D.nx σ H2) →
      tAsg te (gSub (tVar 0) (tC (.int y)) rSetL) D σ H' := fun {σ H' i c m k i' c' m' k' y z j te D} d hσ he hk hj hset h0 h1 h2 h3 h4 kk => by
    subst hk
    refine Evl.s_setL d.hs he (Evl.ev_var hσ) Evl.ev_c hj fun H2 e2 => ?_
    rw [hset]
    exact kk _ ((d.ex e2).set hW hne h0 h1 h2 h3 h4)
  refine seq_tail (fun σ H' => ∃ i c m k, DrS W H s ns H' i c m k ∧ σ[0]? = some (some (.ref s)) ∧ σ[1]? = some (some (.int n)) ∧ σ.length = 5) ?_ (fun tail => ?_)
  · rintro σ H' ⟨i, c, m, k, d, hσ, hn1, hl4⟩
    refine Evl.s_if (Evl.et_test (Evl.ev_op (x2 d hσ) Evl.ev_c Evl.rv_I0)) (fun hb1 H1 e1 => ?_) (fun hb1 H1 e1 => ?_)
    · have hc := of_decide_eq_true hb1
      have d1 := d.ex e1
      refine Evl.q_asg (dr_mod (dr_int (x2 d1 hσ)) (Evl.ev_var hn1) hn) fun H2 e2 => ?_
      have d2 := d1.ex e2
      have hσ2 : (σ.set 4 (some (V.int (c % n))))[0]? = some (some (.ref s)) := by rw [List.getElem?_set_ne (by decide)]; exact hσ
      have hn2' : (σ.set 4 (some (V.int (c % n))))[1]? = some (some (.int n)) := by rw [List.getElem?_set_ne (by decide)]; exact hn1
      have h4 : (σ.set 4 (some (V.int (c % n))))[4]? = some (some (.int (c % n))) := by rw [List.getElem?_set_self (by omega)]
      refine put (i' := i) (c' := c / n) (m' := m) (k' := k) (j := 2) d2 hσ2 (Evl.ev_op (x2 d2 hσ2) (Evl.ev_var hn2') (Evl.rv_I (div_ok hn hn2))) rfl (by decide) rfl d2.i0 d2.i1 (Int.ediv_nonneg d2.c0 (by omega)) d2.m0 d2.m1 fun H3 d3 => ?_
      exact Evl.s_ret (Evl.ev_var h4) fun H4 e4 => ok (d3.ex e4) _ (Int.emod_nonneg _ (by omega)) (Int.emod_lt_of_pos _ hn)
    · have d1 := d.ex e1
      refine put (i' := i) (c' := c) (m' := m) (k' := k + 1) (j := 4) d1 hσ (dr_plus (x4 d1 hσ) Evl.ev_c) rfl (by decide) rfl d1.i0 d1.i1 d1.c0 d1.m0 d1.m1 fun H2 d2 => ?_
      refine Evl.q_asg (dr_mod (dr_int (dr_mul (dr_int (dr_plus (x3 d2 hσ) (dr_mulL Evl.ev_c (x4 d2 hσ) (by decide) (by decide)))) Evl.ev_c (by decide) (by decide))) Evl.ev_c (by decide)) fun H3 e3 => ?_
      have d3 := d2.ex e3
      have b1 := Int.emod_nonneg ((m + 7919 * (k + 1)) * 48271) (b := 2147483647) (by decide)
      have b2 := Int.emod_lt_of_pos ((m + 7919 * (k + 1)) * 48271) (b := 2147483647) (by decide)
      generalize hr0 : (m + 7919 * (k + 1)) * 48271 % 2147483647 = r0 at b1 b2
      have h2 : (σ.set 2 (some (V.int r0)))[2]? = some (some (.int r0)) := by rw [List.getElem?_set_self (by omega)]
      have q1 : r0 / 1009 < 2147483647 := by omega
      have q0 : 0 ≤ r0 / 1009 := by omega
      refine Evl.q_asg (dr_mod (dr_int (dr_mul (Evl.ev_var h2) (dr_plus (dr_div (Evl.ev_var h2) Evl.ev_c (by decide) (by decide)) Evl.ev_c) (by omega) (by omega))) Evl.ev_c (by decide)) fun H4 e4 => ?_
      have d4 := d3.ex e4
      have b3 := Int.emod_nonneg (r0 * (r0 / 1009 + 69621)) (b := 2147483647) (by decide)
      have b4 := Int.emod_lt_of_pos (r0 * (r0 / 1009 + 69621)) (b := 2147483647) (by decide)
      generalize r0 * (r0 / 1009 + 69621) % 2147483647 = r1 at b3 b4
      have h3 : ((σ.set 2 (some (V.int r0))).set 2 (some (V.int r1)))[2]? = some (some (.int r1)) := by rw [List.getElem?_set_self (by rw [List.length_set]; omega)]
      refine Evl.q_asg (dr_mod (dr_int (dr_mul (Evl.ev_var h3) (dr_plus (dr_div (Evl.ev_var h3) Evl.ev_c (by decide) (by decide)) Evl.ev_c) (by omega) (by omega))) Evl.ev_c (by decide)) fun H5 e5 => ?_
      have d5 := d4.ex e5
      generalize r1 * (r1 / 2003 + 40692) % 2147483399 = r2
      have h5 : (((σ.set 2 (some (V.int r0))).set 2 (some (V.int r1))).set 2 (some (V.int r2)))[2]? = some (some (.int r2)) := by rw [List.getElem?_set_self (by rw [List.length_set, List.length_set]; omega)]
      have h6 : (((σ.set 2 (some (V.int r0))).set 2 (some (V.int r1))).set 2 (some (V.int r2)))[1]? = some (some (.int n)) := by rw [List.getElem?_set_ne (by decide), List.getElem?_set_ne (by decide), List.getElem?_set_ne (by decide)]; exact hn1
      refine Evl.s_ret (dr_mod (dr_int (dr_div (Evl.ev_var h5) Evl.ev_c (by decide) (by decide))) (Evl.ev_var h6) hn) fun H6 e6 => ?_
      exact ok (d5.ex e6) _ (Int.emod_nonneg _ (by omega)) (Int.emod_lt_of_pos _ hn)
  · refine Evl.q_when (D := { nx := fun x H' => Q V.non H', rt := Q }) (Evl.et_and (Evl.et_test (dr_eq (x2 dS rfl) Evl.ev_c)) (fun _ => Evl.et_test (Evl.ev_op (x1 dS rfl) (dr_len (x0 dS rfl) dS.hb) Evl.rv_I0))) (fun hb1 H1 e1 => ?_) (fun hb1 H1 e1 => tail _ _ ⟨_, _, _, _, dS.ex e1, rfl, rfl, rfl⟩)
    rw [Bool.and_eq_true] at hb1
    have hi := of_decide_eq_true hb1.2
    rw [List.length_map] at hi
    have d1 := dS.ex e1
    obtain ⟨j, rfl⟩ := Int.eq_ofNat_of_zero_le i0
    have hj : j < ns.length := by omega
    have hat : atI (ns.map V.int) (j : Int) = some (.int ns[j]) := atI_nat (by rw [List.getElem?_map, List.getElem?_eq_getElem hj]; rfl)
    refine Evl.q_asg (dr_ix (x0 d1 rfl) (x1 d1 rfl) d1.hb hat) fun H2 e2 => ?_
    have d2 := d1.ex e2
    refine put (i' := (j : Int) + 1) (c' := c) (m' := m) (k' := k) (j := 1) d2 rfl (dr_plus (x1 d2 rfl) Evl.ev_c) rfl (by decide) rfl (by omega) (by omega) d2.c0 d2.m0 d2.m1 fun H3 d3 => ?_
    have b1 := Int.emod_nonneg (m * 69621 + ns[j] + 11) (b := 2147483629) (by decide)
    have b2 := Int.emod_lt_of_pos (m * 69621 + ns[j] + 11) (b := 2147483629) (by decide)
    refine put (i' := (j : Int) + 1) (c' := c) (m' := (m * 69621 + ns[j] + 11) % 2147483629) (k' := k) (j := 3) d3 rfl (dr_mod (dr_int (dr_plus (dr_plus (dr_mul (x3 d3 rfl) Evl.ev_c (by decide) (by decide)) (Evl.ev_var rfl)) Evl.ev_c)) Evl.ev_c (by decide)) rfl (by decide) rfl (by omega) (by omega) d3.c0 b1 (by omega) fun H4 d4 => ?_
    refine Evl.s_if (Evl.et_test (Evl.ev_op (Evl.ev_var rfl) (Evl.ev_op Evl.ev_c Evl.ev_c (Evl.rv_I ⟨by decide, by decide, by decide⟩)) Evl.rv_I0)) (fun hb2 H5 e5 => ?_) (fun hb2 H5 e5 => ?_)
    · have ht := of_decide_eq_true hb2
      refine put (i' := (j : Int) + 1) (c' := ns[j]) (m' := (m * 69621 + ns[j] + 11) % 2147483629) (k' := k) (j := 2) (d4.ex e5) rfl (Evl.ev_var rfl) rfl (by decide) rfl (by omega) (by omega) (by
        have : (0 : Int) ≤ 10 ^ (18 : Int).toNat := by decide
        omega) b1 (by omega) fun H6 d6 => ?_
      exact tail _ _ ⟨_, _, _, _, d6, rfl, rfl, rfl⟩
    · exact tail _ _ ⟨_, _, _, _, d4.ex e5, rfl, rfl, rfl⟩
/-! ### _law_square -/
def F__law_square : FD := fun ds P => ∃ n : Nat, ds = [.st, .int n] ∧ 1 ≤ n ∧ n ≤ 10 ∧ ∀ R, SqC n R → P (sqD R)
theorem len__law_square : ∀ ds P, F__law_square ds P → ds.length = 2 := by (intro ds P h; first | exact h | (obtain ⟨_, rfl, _⟩ := h; rfl) | (obtain ⟨_, _, rfl, _⟩ := h; rfl) | (obtain ⟨_, _, _, rfl, _⟩ := h; rfl) | (obtain ⟨_, _, _, _, rfl, _⟩ := h; rfl) | (obtain ⟨_, _, _, _, _, rfl, _⟩ := h; rfl) | (obtain ⟨_, _, _, _, _, _, rfl, _⟩ := h; rfl) | (obtain ⟨_, _, _, _, _, _, _, rfl, _⟩ := h; rfl) | (obtain ⟨_, _, _, _, _, _, _, _, rfl, _⟩ := h; rfl) | (obtain ⟨rfl, _⟩ := h; rfl))
theorem ok__law_square (T : Txt K mg) : FnOk Pg w K mg base CX0 2 T.D__law_square.f T.D__law_square.d ["hand", "many"] ((spD K F__law_square)) := by
  have G__law_draw := ok__law_draw (Pg := Pg) (w := w) (base := base) T
  have G__law_lowest := ok__law_lowest (Pg := Pg) (w := w) (base := base) T
  refine T.D__law_square.F.ok (k := 1) sc__law_square (spD_len (len__law_square)) (fun cdv A outer s H vs Q E hr h => ?_)
  refine ⟨_, (pss_cons (ps_set (i := 2) sc__law_square.nd rfl (by first | exact Or.inl rfl | exact Or.inr rfl) (pe_lst pa_nil))
    (pss_cons (ps_for PassesOwn.never rfl (pi_range1 (by rfl) T.n_range (pa_cons (pv 1) pa_nil)) (pg_name (i := 3) sc__law_square.nd rfl (by first | exact Or.inl rfl | exact Or.inr rfl))
      (pss_cons (ps_set (i := 4) sc__law_square.nd rfl (by first | exact Or.inl rfl | exact Or.inr rfl) (pe_lst pa_nil))
    (pss_cons (ps_for PassesOwn.never rfl (pi_range1 (by rfl) T.n_range (pa_cons (pv 1) pa_nil)) (pg_name (i := 5) sc__law_square.nd rfl (by first | exact Or.inl rfl | exact Or.inr rfl))
      (pss_cons (ps_set (i := 6) sc__law_square.nd rfl (by first | exact Or.inl rfl | exact Or.inr rfl) (pe_call G__law_lowest (hr.mono (by decide)) (by rfl) T.D__law_lowest.g T.D__law_lowest.F.kp T.D__law_lowest.b .nil pass0 (pa_cons (pe_op op_sub (pe_call G__law_draw (hr.mono (by decide)) (by rfl) T.D__law_draw.g T.D__law_draw.F.kp T.D__law_draw.b .nil pass0 (pa_cons (pv 0) (pa_cons pe_int pa_nil))) pe_int) (pa_cons (pe_op (op_plusK (K := K) rfl) pe_int (pe_call G__law_draw (hr.mono (by decide)) (by rfl) T.D__law_draw.g T.D__law_draw.F.kp T.D__law_draw.b .nil pass0 (pa_cons (pv 0) (pa_cons pe_int pa_nil)))) pa_nil))))
    (pss_one (ps_expr (pe_bm PySem.F.plainAttrs_list PySem.F.slot_list_append PySem.F.type_list_append mt_append (pv 4) (pa_cons (pe_ifExp (pt_cmpR op_gt (pe_call G__law_draw (hr.mono (by decide)) (by rfl) T.D__law_draw.g T.D__law_draw.F.kp T.D__law_draw.b .nil pass0 (pa_cons (pv 0) (pa_cons pe_int pa_nil))) pe_int (nomark _)) (pv 6) (pe_tup (pa_cons pe_int (pa_cons pe_int pa_nil)))) pa_nil))))))
    (pss_one (ps_expr (pe_bm PySem.F.plainAttrs_list PySem.F.slot_list_append PySem.F.type_list_append mt_append (pv 2) (pa_cons (pe_callTy (call_tuple_ofK (K := K) rfl) (by rfl) T.n_tuple (by decide +kernel) (pa_cons (pv 4) pa_nil)) pa_nil)))))))
    (pss_one (ps_ret (pe_callTy (call_tuple_ofK (K := K) rfl) (by rfl) T.n_tuple (by decide +kernel) (pa_cons (pv 2) pa_nil)))))), ?_⟩
  try dsimp only [cxOf, Cx.blk, Cx.nox, Cx.wish]
  refine body_ofO h fun W ds P eK f => ?_
  subst eK
  obtain ⟨n, rfl, n1, n10, hP⟩ := f
  refine so_seq (so_new ?_)
  walk_at "pd"
  refine fun p _ => ?_
  refine so_seq (so_for (it_rng1 ?_))
  walk_at "pd"
  refine ⟨_, rfl, by omega, by omega, fun i ω δ => ∃ (acc : List (List Fr)) (x y z u : Option D), Has ω p (acc.map rowD) ∧ acc.length = i ∧ (∀ r ∈ acc, r.length = n ∧ ∀ q ∈ r, IsF q ∧ q.1.natAbs ≤ 9 ∧ q.2 ∣ 12) ∧ δ = [some .st, some (.int n), some (.obj p), x, y, z, u], ⟨[], none, none, none, none, Has.new (fun x hx => by cases hx), rfl, fun r hr => (by cases hr), rfl⟩, fun i d ω δ hd hI => ?_, fun ω δ hI => ?_⟩
  · obtain ⟨acc, x, y, z, u, hp, hl, hc, rfl⟩ := hI
    obtain ⟨hi, rfl⟩ := rngD_get hd
    refine ⟨_, gd_name ?_⟩
    refine so_seq (so_new ?_)
    walk_at "pd"
    refine fun p2 fresh => ?_
    have ne := hp.ne fresh
    refine so_seq (so_for (it_rng1 ?_))
    walk_at "pd"
    refine ⟨_, rfl, by omega, by omega, fun j ω δ => ∃ (line : List Fr) (z u : Option D), Has ω p (acc.map rowD) ∧ Has ω p2 (line.map fr) ∧ line.length = j ∧ (∀ q ∈ line, IsF q ∧ q.1.natAbs ≤ 9 ∧ q.2 ∣ 12) ∧ δ = [some .st, some (.int n), some (.obj p), some (.int (0 + (i : Int))), some (.obj p2), z, u], ⟨[], z, u, hp.cons ne, Has.new fresh, rfl, fun q hq => (by cases hq), rfl⟩, fun j d ω δ hd hI => ?_, fun ω δ hI => ?_⟩
    · obtain ⟨line, z, u, h1, h2, lj, hq, rfl⟩ := hI
      obtain ⟨hj, rfl⟩ := rngD_get hd
      refine ⟨_, gd_name ?_⟩
      refine so_seq (so_asg ?_)
      walk_at "pd"
      refine draw_lit (by decide +kernel) fun a a0 a1 => ?_
      walk_at "pd"
      refine draw_lit (by decide +kernel) fun b b0 b1 => ?_
      walk_at "pd"
      have ent := entC_draw a0 a1 b0 b1
      refine ⟨_, _, rfl, by omega, Nat.lt_of_lt_of_le (show (1 + b).natAbs < 2 ^ 4 by omega) (Nat.pow_le_pow_right (by decide) (by decide)), ?_⟩
      refine so_app (i := 4) rfl h2.1 (fun es m => by rw [h2.2 es m, List.length_map]; omega) ?_
      walk_at "pd"
      refine draw_lit (by decide +kernel) fun c c0 c1 => ?_
      walk_at "pd"
      have add : ∀ q : Fr, (IsF q ∧ q.1.natAbs ≤ 9 ∧ q.2 ∣ 12) → ∃ (line2 : List Fr) (z u : Option D), Has (putO ω p2 fun es => es ++ [fr q]) p (acc.map rowD) ∧ Has (putO ω p2 fun es => es ++ [fr q]) p2 (line2.map fr) ∧ line2.length = j + 1 ∧ (∀ q ∈ line2, IsF q ∧ q.1.natAbs ≤ 9 ∧ q.2 ∣ 12) ∧ [some D.st, some (.int n), some (.obj p), some (.int (0 + (i : Int))), some (.obj p2), some (.int (0 + (j : Int))), some (fr (lowF (a - 9) (1 + b)))] = [some D.st, some (.int n), some (.obj p), some (.int (0 + (i : Int))), some (.obj p2), z, u] := fun q hq2 =>
        ⟨line ++ [q], _, _, h1.off ne, by
          have := h2.put (f := fun es => es ++ [fr q])
          rw [List.map_append]
          exact this, by rw [List.length_append, lj]; rfl, fun x hx => by
          rcases List.mem_append.mp hx with hx | hx
          · exact hq x hx
          · rw [List.mem_singleton.mp hx]; exact hq2, rfl⟩
      refine ⟨fun _ => ?_, fun _ => ?_⟩
      · walk_at "pd"
        exact ⟨_, rfl, add _ ent⟩
      · walk_at "pd"
        exact ⟨_, rfl, add (0, 1) ⟨⟨by decide, by decide⟩, by decide, by decide⟩⟩
    · obtain ⟨line, z, u, h1, h2, lj, hq, rfl⟩ := hI
      rw [rngD_length] at lj
      refine so_appL (i := 2) rfl h1 (by rw [List.length_map]; omega) (evl_put (a := p2) 4 rfl h2.1 (evl_ev ?_))
      walk_at "pd"
      refine ⟨nref_tup fun x hx => ?_, acc ++ [line], _, _, _, _, by
        have := h1.put (f := fun es => es ++ [rowD line])
        rw [List.map_append]
        exact this, by rw [List.length_append, hl]; rfl, fun r hr => ?_, rfl⟩
      · obtain ⟨q, _, rfl⟩ := List.mem_map.mp hx
        exact nref_fr q
      · rcases List.mem_append.mp hr with hr | hr
        · exact hc r hr
        · rw [List.mem_singleton.mp hr]
          exact ⟨by omega, hq⟩
  · obtain ⟨acc, x, y, z, u, hp, hl, hc, rfl⟩ := hI
    rw [rngD_length] at hl
    refine so_retL (evl_put (a := p) 2 rfl hp.1 (evl_ev ?_))
    walk_at "pd"
    refine ⟨nref_tup fun x hx => ?_, hP acc ⟨⟨by omega, fun r hr => (hc r hr).1⟩, fun r hr => (hc r hr).2⟩⟩
    obtain ⟨r, _, rfl⟩ := List.mem_map.mp hx
    refine nref_tup fun y hy => ?_
    obtain ⟨q, _, rfl⟩ := List.mem_map.mp hy
    exact nref_fr q
/-! ### is_pair -/
def F_is_pair (K : PySem.W.Frag) : FD := fun ds P => ∃ x, ds = [x] ∧ Jd1 K x ∧ P (.bl (isPr x))
theorem len_is_pair (K : PySem.W.Frag) : ∀ ds P, (F_is_pair K) ds P → ds.length = 1 := by (intro ds P h; first | exact h | (obtain ⟨_, rfl, _⟩ := h; rfl) | (obtain ⟨_, _, rfl, _⟩ := h; rfl) | (obtain ⟨_, _, _, rfl, _⟩ := h; rfl) | (obtain ⟨_, _, _, _, rfl, _⟩ := h; rfl) | (obtain ⟨_, _, _, _, _, rfl, _⟩ := h; rfl) | (obtain ⟨_, _, _, _, _, _, rfl, _⟩ := h; rfl) | (obtain ⟨_, _, _, _, _, _, _, rfl, _⟩ := h; rfl) | (obtain ⟨_, _, _, _, _, _, _, _, rfl, _⟩ := h; rfl) | (obtain ⟨rfl, _⟩ := h; rfl))
theorem ok_is_pair (T : Txt K mg) : FnOk Pg w K mg base CX0 1 T.D_is_pair.f T.D_is_pair.d ["thing"] ((spD K (F_is_pair K))) := by
  refine T.D_is_pair.F.ok (k := 0) sc_is_pair (spD_len (len_is_pair K)) (fun cdv A outer s H vs Q E hr h => ?_)
  refine ⟨_, (pss_one (ps_ret (pe_and (pe_callB (call_isiK' (K := K) rfl) (by rfl) T.n_isinstance (by decide +kernel) (pa_cons (pv 0) (pa_cons (pe_bltn (v := .ty "tuple") (u := .type "tuple") (by rfl) T.n_tuple (by decide +kernel) rfl) pa_nil))) (pe_one (pe_cmpR (op_eqDK (K := K) rfl (hr_u hr)) (pe_callB (call_lenK (K := K) rfl) (by rfl) T.n_len (by decide +kernel) (pa_cons (pv 0) pa_nil)) pe_int (nomark _)))))), ?_⟩
  try dsimp only [cxOf, Cx.blk, Cx.nox, Cx.wish]
  (refine body_of h fun W ds P eK f => ?_); subst eK
  obtain ⟨x, rfl, hx, hP⟩ := f
  walk_at "pd"
  by_cases hT : x.isTup = true
  · obtain ⟨xs, rfl⟩ := tup_of hT
    walk_at "pd"
    match xs with
    | [] => exact hP
    | [_] => exact hP
    | [_, _] => exact hP
    | _ :: _ :: _ :: r =>
      rw [decide_eq_false (by simp only [List.length_cons]; omega)]
      exact hP
  · have hT' : x.isTup = false := by simpa using hT
    rw [hT']
    walk_at "pd"
    have e : isPr x = false := by cases x <;> first | rfl | cases hT'
    rw [e] at hP
    exact hP
/-! ### is_whole -/
def F_is_whole (K : PySem.W.Frag) : FD := fun ds P => ∃ x, ds = [x] ∧ Jd1 K x ∧ P (.bl x.isInt)
theorem len_is_whole (K : PySem.W.Frag) : ∀ ds P, (F_is_whole K) ds P → ds.length = 1 := by (intro ds P h; first | exact h | (obtain ⟨_, rfl, _⟩ := h; rfl) | (obtain ⟨_, _, rfl, _⟩ := h; rfl) | (obtain ⟨_, _, _, rfl, _⟩ := h; rfl) | (obtain ⟨_, _, _, _, rfl, _⟩ := h; rfl) | (obtain ⟨_, _, _, _, _, rfl, _⟩ := h; rfl) | (obtain ⟨_, _, _, _, _, _, rfl, _⟩ := h; rfl) | (obtain ⟨_, _, _, _, _, _, _, rfl, _⟩ := h; rfl) | (obtain ⟨_, _, _, _, _, _, _, _, rfl, _⟩ := h; rfl) | (obtain ⟨rfl, _⟩ := h; rfl))
theorem ok_is_whole (T : Txt K mg) : FnOk Pg w K mg base CX0 1 T.D_is_whole.f T.D_is_whole.d ["thing"] ((spD K (F_is_whole K))) := by
  refine T.D_is_whole.F.ok (k := 0) sc_is_whole (spD_len (len_is_whole K)) (fun cdv A outer s H vs Q E hr h => ?_)
  refine ⟨_, (pss_one (ps_ret (pe_and (pe_callB (call_isiK' (K := K) rfl) (by rfl) T.n_isinstance (by decide +kernel) (pa_cons (pv 0) (pa_cons (pe_bltn (v := .ty "int") (u := .type "int") (by rfl) T.n_int (by decide +kernel) rfl) pa_nil))) (pe_one (pe_not (pe_callB (call_isiK' (K := K) rfl) (by rfl) T.n_isinstance (by decide +kernel) (pa_cons (pv 0) (pa_cons (pe_bltn (v := .ty "bool") (u := .type "bool") (by rfl) T.n_bool (by decide +kernel) rfl) pa_nil)))))))), ?_⟩
  try dsimp only [cxOf, Cx.blk, Cx.nox, Cx.wish]
  (refine body_of h fun W ds P eK f => ?_); subst eK
  obtain ⟨x, rfl, hx, hP⟩ := f
  walk_at "pd"
  refine ⟨fun hb => ?_, fun hb => ?_⟩
  · walk_at "pd"
    cases x <;> first | exact hP | cases hb
  · cases x <;> first | exact hP | cases hb
/-! ### is_fraction -/
def F_is_fraction (K : PySem.W.Frag) : FD := fun ds P => ∃ x, ds = [x] ∧ Jd K x ∧ P (.bl (isFr x))
theorem len_is_fraction (K : PySem.W.Frag) : ∀ ds P, (F_is_fraction K) ds P → ds.length = 1 := by (intro ds P h; first | exact h | (obtain ⟨_, rfl, _⟩ := h; rfl) | (obtain ⟨_, _, rfl, _⟩ := h; rfl) | (obtain ⟨_, _, _, rfl, _⟩ := h; rfl) | (obtain ⟨_, _, _, _, rfl, _⟩ := h; rfl) | (obtain ⟨_, _, _, _, _, rfl, _⟩ := h; rfl) | (obtain ⟨_, _, _, _, _, _, rfl, _⟩ := h; rfl) | (obtain ⟨_, _, _, _, _, _, _, rfl, _⟩ := h; rfl) | (obtain ⟨_, _, _, _, _, _, _, _, rfl, _⟩ := h; rfl) | (obtain ⟨rfl, _⟩ := h; rfl))
theorem ok_is_fraction (T : Txt K mg) : FnOk Pg w K mg base CX0 2 T.D_is_fraction.f T.D_is_fraction.d ["thing"] ((spD K (F_is_fraction K))) := by
  have G_is_pair := ok_is_pair (Pg := Pg) (w := w) (base := base) T
  have G_is_whole := ok_is_whole (Pg := Pg) (w := w) (base := base) T
  refine T.D_is_fraction.F.ok (k := 1) sc_is_fraction (spD_len (len_is_fraction K)) (fun cdv A outer s H vs Q E hr h => ?_)
  refine ⟨_, (pss_cons (ps_if (pt_not (pt_val (pe_call G_is_pair (hr.mono (by decide)) (by rfl) T.D_is_pair.g T.D_is_pair.F.kp T.D_is_pair.b .nil pass0 (pa_cons (pv 0) pa_nil))))
      (pss_one (ps_ret pe_bl))
      pss_nil)
    (pss_cons (ps_asg (pv 0) (by exact (pg_tupK (K := K) (n := 2) rfl rfl (pgs_cons (pg_name (i := 1) sc_is_fraction.nd rfl (by first | exact Or.inl rfl | exact Or.inr rfl)) (pgs_cons (pg_name (i := 2) sc_is_fraction.nd rfl (by first | exact Or.inl rfl | exact Or.inr rfl)) pgs_nil)))))
    (pss_one (ps_ret (pe_and (pe_call G_is_whole (hr.mono (by decide)) (by rfl) T.D_is_whole.g T.D_is_whole.F.kp T.D_is_whole.b .nil pass0 (pa_cons (pv 1) pa_nil)) (pe_and (pe_call G_is_whole (hr.mono (by decide)) (by rfl) T.D_is_whole.g T.D_is_whole.F.kp T.D_is_whole.b .nil pass0 (pa_cons (pv 2) pa_nil)) (pe_and (pe_cmpR op_ge (pv 2) pe_int (nomark _)) (pe_one (pe_cmpR (op_eqDK (K := K) rfl (hr_u hr)) (pe_callBfun cr_gcd (by rfl) T.v_gcd (pa_cons (pv 1) (pa_cons (pv 2) pa_nil))) pe_int (nomark _)))))))))), ?_⟩
  try dsimp only [cxOf, Cx.blk, Cx.nox, Cx.wish]
  (refine body_of h fun W ds P eK f => ?_); subst eK
  obtain ⟨x, rfl, hx, hP⟩ := f
  have ht := jd_ty hx
  walk_at "pd"
  refine ⟨x, rfl, ht, ?_⟩
  walk_at "pd"
  by_cases hT : isPr x = true
  · obtain ⟨a, b, rfl⟩ : ∃ a b, x = .tup [a, b] := by
      unfold isPr at hT
      split at hT
      · exact ⟨_, _, rfl⟩
      · cases hT
    refine bf rfl ?_
    simp only [Jd, JdA] at hx
    have ha := jd_ty hx.1
    have hb := jd_ty hx.2.1
    walk_at "pd"
    refine sd_asgG (ev_var rfl (gd_tup2 (gd_name (gd_name ?_))))
    walk_at "pd"
    refine ⟨_, rfl, ha, ?_⟩
    walk_at "pd"
    refine ⟨fun h1 => ?_, fun h1 => ?_⟩
    · obtain ⟨i, rfl⟩ := isInt_of h1
      walk_at "pd"
      refine ⟨_, rfl, hb, ?_⟩
      walk_at "pd"
      refine ⟨fun h2 => ?_, fun h2 => ?_⟩
      · obtain ⟨j, rfl⟩ := isInt_of h2
        walk_at "pd"
        refine ⟨fun h3 => ?_, fun h3 => ?_⟩
        · walk_at "pd"
          rw [isFr_ints (of_decide_eq_true h3)] at hP
          exact hP
        · rw [isFr_low (of_decide_eq_false h3)] at hP
          exact hP
      · simp only [isFr, h2, Bool.false_and, Bool.and_false] at hP
        exact hP
    · simp only [isFr, h1, Bool.false_and, Bool.and_false] at hP
      exact hP
  · have hT' : isPr x = false := by simpa using hT
    refine bt (by rw [hT']; rfl) ?_
    walk_at "pd"
    have e : isFr x = false := by
      unfold isPr at hT'
      unfold isFr
      split
      · simp at hT'
      · rfl
    rw [e] at hP
    exact hP
/-! ### _is_square -/
def F__is_square (K : PySem.W.Frag) : FD := fun ds P => ∃ (n : Nat) (R : List (List Fr)), ds = [sqD R] ∧ SqQ n R ∧ 1 ≤ n ∧ n ≤ 10 ∧ (∀ r ∈ R, ∀ p ∈ r, IsF p) ∧ P (.bl true)
theorem len__is_square (K : PySem.W.Frag) : ∀ ds P, (F__is_square K) ds P → ds.length = 1 := by (intro ds P h; first | exact h | (obtain ⟨_, rfl, _⟩ := h; rfl) | (obtain ⟨_, _, rfl, _⟩ := h; rfl) | (obtain ⟨_, _, _, rfl, _⟩ := h; rfl) | (obtain ⟨_, _, _, _, rfl, _⟩ := h; rfl) | (obtain ⟨_, _, _, _, _, rfl, _⟩ := h; rfl) | (obtain ⟨_, _, _, _, _, _, rfl, _⟩ := h; rfl) | (obtain ⟨_, _, _, _, _, _, _, rfl, _⟩ := h; rfl) | (obtain ⟨_, _, _, _, _, _, _, _, rfl, _⟩ := h; rfl) | (obtain ⟨rfl, _⟩ := h; rfl))
theorem ok__is_square (T : Txt K mg) : FnOk Pg w K mg base CX0 3 T.D__is_square.f T.D__is_square.d ["thing"] ((spD K (F__is_square K))) := by
  have G_is_fraction := ok_is_fraction (Pg := Pg) (w := w) (base := base) T
  refine T.D__is_square.F.ok (k := 2) sc__is_square (spD_len (len__is_square K)) (fun cdv A outer s H vs Q E hr h => ?_)
  refine ⟨_, (pss_cons (ps_if (PW.pt (pw_or (pt_not (pt_val (pe_callB (call_isiK' (K := K) rfl) (by rfl) T.n_isinstance (by decide +kernel) (pa_cons (pv 0) (pa_cons (pe_bltn (v := .ty "tuple") (u := .type "tuple") (by rfl) T.n_tuple (by decide +kernel) rfl) pa_nil))))) (pw_or1 (pt_not (pt_chain op_le op_le pe_int (pe_callB (call_lenK (K := K) rfl) (by rfl) T.n_len (by decide +kernel) (pa_cons (pv 0) pa_nil)) (pe_glob (v := .int 10) rfl T.c_MOST_ROWS ⟨_, rfl⟩))))))
      (pss_one (ps_ret pe_bl))
      pss_nil)
    (pss_cons (ps_if (pt_not (pt_val (pe_callB (cr_allK (K := K) rfl rfl) (by rfl) T.n_all (by decide +kernel) (pa_cons (pe_lc (own := [("row", 1)]) rfl sc__is_square.nd (pi_seqK (K := K) rfl (pv 0)) (blkOk_by (N := ["thing", "row", "number"]) (sc := defScope s__is_square) (by decide +kernel)) (fun _ _ _ _ _ => (pg_name (i := 1) sc__is_square.nd rfl (by first | exact Or.inl rfl | exact Or.inr rfl))) (fun _ _ _ _ _ => pts_nil) (fun _ _ _ _ _ => (pe_and (pe_callB (call_isiK' (K := K) rfl) (by rfl) T.n_isinstance (by decide +kernel) (pa_cons (pv 1) (pa_cons (pe_bltn (v := .ty "tuple") (u := .type "tuple") (by rfl) T.n_tuple (by decide +kernel) rfl) pa_nil))) (pe_one (pe_cmpR (op_eqDK (K := K) rfl (hr_u hr)) (pe_callB (call_lenK (K := K) rfl) (by rfl) T.n_len (by decide +kernel) (pa_cons (pv 1) pa_nil)) (pe_callB (call_lenK (K := K) rfl) (by rfl) T.n_len (by decide +kernel) (pa_cons (pv 0) pa_nil)) (nomark _)))))) pa_nil))))
      (pss_one (ps_ret pe_bl))
      pss_nil)
    (pss_one (ps_ret (pe_callB (cr_allK (K := K) rfl rfl) (by rfl) T.n_all (by decide +kernel) (pa_cons (pe_lc2 (own := [("row", 1), ("number", 2)]) (vs1 := [2]) rfl sc__is_square.nd (pi_seqK (K := K) rfl (pv 0)) (blkOk_by (N := ["thing", "row", "number"]) (sc := defScope s__is_square) (by decide +kernel)) (by decide) (fun _ _ _ _ _ => (pg_name (i := 1) sc__is_square.nd rfl (by first | exact Or.inl rfl | exact Or.inr rfl))) (fun _ _ _ _ _ => pts_nil) (fun _ _ _ _ _ => (pi_seqK (K := K) rfl (pv 1))) (fun _ _ _ _ _ => (pg_name (i := 2) sc__is_square.nd rfl (by first | exact Or.inl rfl | exact Or.inr rfl))) (fun _ _ _ _ _ => pts_nil) (fun _ _ _ _ _ => (pe_call G_is_fraction (hr.mono (by decide)) (by rfl) T.D_is_fraction.g T.D_is_fraction.F.kp T.D_is_fraction.b .nil pass0 (pa_cons (pv 2) pa_nil)))) pa_nil)))))), ?_⟩
  try dsimp only [cxOf, Cx.blk, Cx.nox, Cx.wish]
  (refine body_of h fun W ds P eK f => ?_); subst eK
  obtain ⟨n, R, rfl, hR, n1, n10, hF, hP⟩ := f
  have hl : R.length = n := hR.1
  walk_at "pd"
  have hlm : (R.map rowD).length = n := by rw [List.length_map, hl]
  refine bt (decide_eq_true (by rw [hlm]; omega)) ?_
  walk_at "pd"
  refine bf (by rw [decide_eq_true (by rw [hlm]; omega)]; rfl) ?_
  walk_at "pd"
  refine ev_lcL (it_seqT (ev_var rfl ⟨R.map rowD, rfl, by omega, (R.map fun _ => true).map D.bl, by rw [List.length_map, List.length_map, List.length_map], fun i d y hd hy => ?_, ?_⟩))
  · rw [List.getElem?_map] at hd
    rw [List.map_map, List.getElem?_map] at hy
    cases hp : R[i]? with
    | none => rw [hp] at hd; cases hd
    | some r =>
      rw [hp] at hd hy
      cases hd
      cases hy
      refine ⟨[1], by simp, gd_name ?_⟩
      walk_at "pd"
      have e : ((r.map fr).length : Int) = ((R.map rowD).length : Int) := by
        rw [hlm, List.length_map, hR.2 r (List.mem_of_getElem? hp)]
      rw [e, decide_eq_true rfl]
      rfl
  · walk_at "pd"
    refine rc_all ?_
    rw [all_true]
    walk_at "pd"
    refine ev_lc2 (it_seqT (ev_var rfl ⟨R.map rowD, rfl, fun i acc => ∃ k : Nat, acc = (List.replicate k true).map D.bl ∧ k ≤ i * n, ⟨0, rfl, Nat.zero_le _⟩, fun i d acc hd ha => ⟨[1], by simp, gd_name ?_⟩, fun acc ha => ?_⟩))
    · obtain ⟨k, rfl, hk⟩ := ha
      rw [List.getElem?_map] at hd
      cases hp : R[i]? with
      | none => rw [hp] at hd; cases hd
      | some r =>
        rw [hp] at hd
        cases hd
        have hm := List.mem_of_getElem? hp
        have li := (List.getElem?_eq_some_iff.mp hp).1
        have lr := hR.2 r hm
        have lin : i * n ≤ 10 * 10 := Nat.mul_le_mul (by omega) n10
        refine et_yes ⟨fun _ => it_seqT ?_, fun z => by cases z⟩
        walk_at "pd"
        refine ⟨_, rfl, fun j acc1 => ∃ k1 : Nat, acc1 = (List.replicate k1 true).map D.bl ∧ k1 ≤ i * n + j, ⟨k, rfl, by omega⟩, fun j e acc1 he h1 => ?_, fun acc1 h1 => ?_⟩
        · obtain ⟨k1, rfl, hk1⟩ := h1
          have lj := (List.getElem?_eq_some_iff.mp he).1
          rw [List.length_map] at lj
          refine ⟨by rw [List.length_map, List.length_replicate]; omega, [2], by simp, gd_name ?_⟩
          refine et_yes ⟨fun _ => ?_, fun z => by cases z⟩
          rw [List.getElem?_map] at he
          cases hq : r[j]? with
          | none => rw [hq] at he; cases he
          | some q =>
            rw [hq] at he
            cases he
            walk_at "pd"
            refine ⟨_, rfl, jd_fr _ q, ?_⟩
            rw [isFr_fr (hF r hm q (List.mem_of_getElem? hq))]
            refine ⟨k1 + 1, ?_, by omega⟩
            rw [List.replicate_succ', List.map_append]
            rfl
        · obtain ⟨k1, rfl, hk1⟩ := h1
          rw [List.length_map, lr] at hk1
          exact ⟨k1, rfl, by rw [Nat.succ_mul]; exact hk1⟩
    · obtain ⟨k, rfl, _⟩ := ha
      walk_at "pd"
      refine rc_all ?_
      have e : (List.replicate k true).all id = true := List.all_eq_true.mpr fun x hx => (List.mem_replicate.mp hx).2
      rw [e]
      exact hP
/-! ### check_square_numbers -/
def F_check_square_numbers (K : PySem.W.Frag) : FD := fun ds P => ∃ (n : Nat) (R : List (List Fr)), ds = [sqD R] ∧ SqQ n R ∧ 1 ≤ n ∧ n ≤ 10 ∧ (∀ r ∈ R, ∀ p ∈ r, IsF p) ∧ P .non
theorem len_check_square_numbers (K : PySem.W.Frag) : ∀ ds P, (F_check_square_numbers K) ds P → ds.length = 1 := by (intro ds P h; first | exact h | (obtain ⟨_, rfl, _⟩ := h; rfl) | (obtain ⟨_, _, rfl, _⟩ := h; rfl) | (obtain ⟨_, _, _, rfl, _⟩ := h; rfl) | (obtain ⟨_, _, _, _, rfl, _⟩ := h; rfl) | (obtain ⟨_, _, _, _, _, rfl, _⟩ := h; rfl) | (obtain ⟨_, _, _, _, _, _, rfl, _⟩ := h; rfl) | (obtain ⟨_, _, _, _, _, _, _, rfl, _⟩ := h; rfl) | (obtain ⟨_, _, _, _, _, _, _, _, rfl, _⟩ := h; rfl) | (obtain ⟨rfl, _⟩ := h; rfl))
theorem ok_check_square_numbers (T : Txt K mg) : FnOk Pg w K mg base CX0 4 T.D_check_square_numbers.f T.D_check_square_numbers.d ["numbers"] ((spD K (F_check_square_numbers K))) := by
  have G__is_square := ok__is_square (Pg := Pg) (w := w) (base := base) T
  refine T.D_check_square_numbers.F.ok (k := 3) sc_check_square_numbers (spD_len (len_check_square_numbers K)) (fun cdv A outer s H vs Q E hr h => ?_)
  refine ⟨_, (pss_one (ps_if (pt_not (pt_val (pe_call G__is_square (hr.mono (by decide)) (by rfl) T.D__is_square.g T.D__is_square.F.kp T.D__is_square.b .nil pass0 (pa_cons (pv 0) pa_nil))))
      (pss_one ps_never)
      pss_nil)), ?_⟩
  try dsimp only [cxOf, Cx.blk, Cx.nox, Cx.wish]
  (refine body_of h fun W ds P eK f => ?_); subst eK
  obtain ⟨n, R, rfl, hR, n1, n10, hF, hP⟩ := f
  walk_at "pd"
  refine ⟨n, R, rfl, hR, n1, n10, hF, ?_⟩
  walk_at "pd"
  exact hP
/-! ### as_wholes -/
def F_as_wholes : FD := fun ds P => ∃ r : List Fr, ds = [rowD r] ∧ r.length ≤ 10 ∧ (∀ p ∈ r, EntB p) ∧ P (.tup [intsD (wholeR r), .int (lcmL r)])
theorem len_as_wholes : ∀ ds P, F_as_wholes ds P → ds.length = 1 := by (intro ds P h; first | exact h | (obtain ⟨_, rfl, _⟩ := h; rfl) | (obtain ⟨_, _, rfl, _⟩ := h; rfl) | (obtain ⟨_, _, _, rfl, _⟩ := h; rfl) | (obtain ⟨_, _, _, _, rfl, _⟩ := h; rfl) | (obtain ⟨_, _, _, _, _, rfl, _⟩ := h; rfl) | (obtain ⟨_, _, _, _, _, _, rfl, _⟩ := h; rfl) | (obtain ⟨_, _, _, _, _, _, _, rfl, _⟩ := h; rfl) | (obtain ⟨_, _, _, _, _, _, _, _, rfl, _⟩ := h; rfl) | (obtain ⟨rfl, _⟩ := h; rfl))
theorem ok_as_wholes (T : Txt K mg) : FnOk Pg w K mg base CX0 1 T.D_as_wholes.f T.D_as_wholes.d ["fractions"] ((spD K F_as_wholes)) := by
  refine T.D_as_wholes.F.ok (k := 0) sc_as_wholes (spD_len (len_as_wholes)) (fun cdv A outer s H vs Q E hr h => ?_)
  refine ⟨_, (pss_cons (ps_set (i := 1) sc_as_wholes.nd rfl (by first | exact Or.inl rfl | exact Or.inr rfl) pe_int)
    (pss_cons (ps_for PassesOwn.never rfl (pi_seqK (K := K) rfl (pv 0)) (pg_name (i := 2) sc_as_wholes.nd rfl (by first | exact Or.inl rfl | exact Or.inr rfl))
      (pss_one (ps_set (i := 1) sc_as_wholes.nd rfl (by first | exact Or.inl rfl | exact Or.inr rfl) (pe_callBfun cr_lcm (by rfl) T.v_lcm (pa_cons (pv 1) (pa_cons (pe_ix (ix_seqK (K := K) rfl) (pv 2) pe_int (fun _ _ => rfl)) pa_nil))))))
    (pss_one (ps_ret (pe_tup (pa_cons (pe_lc (own := [("top", 3), ("bottom", 4)]) rfl sc_as_wholes.nd (pi_seqK (K := K) rfl (pv 0)) (blkOk_by (N := ["fractions", "common", "fraction", "top", "bottom"]) (sc := defScope s_as_wholes) (by decide +kernel)) (fun _ _ _ _ _ => (by exact (pg_tupK (K := K) (n := 2) rfl rfl (pgs_cons (pg_name (i := 3) sc_as_wholes.nd rfl (by first | exact Or.inl rfl | exact Or.inr rfl)) (pgs_cons (pg_name (i := 4) sc_as_wholes.nd rfl (by first | exact Or.inl rfl | exact Or.inr rfl)) pgs_nil))))) (fun _ _ _ _ _ => pts_nil) (fun _ _ _ _ _ => (pe_op op_mulW (pv 3) (pe_op op_fdivW (pv 1) (pv 4))))) (pa_cons (pv 1) pa_nil))))))), ?_⟩
  try dsimp only [cxOf, Cx.blk, Cx.nox, Cx.wish]
  (refine body_of h fun W ds P eK f => ?_); subst eK
  obtain ⟨r, rfl, l10, hr, hP⟩ := f
  walk_at "pd"
  refine sd_for (it_seqT ?_)
  walk_at "pd"
  refine ⟨_, rfl, fun i δ => ∃ a b c, δ = [some (rowD r), some (.int ((r.take i).foldl stepL 1)), a, b, c], ⟨none, none, none, rfl⟩, fun i d δ hd hI => ?_, fun δ hI => ?_⟩
  · obtain ⟨a, b, c, rfl⟩ := hI
    rw [List.getElem?_map] at hd
    cases hp : r[i]? with
    | none => rw [hp] at hd; cases hd
    | some p =>
      rw [hp] at hd
      cases hd
      have hm := List.mem_of_getElem? hp
      obtain ⟨k1, k2, _⟩ := foldL_ok (r := r.take i) (m := 1) (by decide) (by decide) fun p hp => hr p (List.mem_of_mem_take hp)
      have k3 : (r.take i).foldl stepL 1 ≤ 24 := Int.le_of_dvd (by decide) k2
      have e := hr p hm
      have e1 := e.1.1
      have e2 : p.2 ≤ 24 := Int.le_of_dvd (by decide) e.2.2
      refine ⟨_, gd_name ?_⟩
      walk_at "pd"
      refine rc_lcm (by omega) (by omega) ?_
      refine ⟨some (fr p), b, c, ?_⟩
      rw [← take_snoc hp, List.foldl_append]
      rfl
  · obtain ⟨a, b, c, rfl⟩ := hI
    rw [List.length_map, List.take_length]
    obtain ⟨k1, k2, k3⟩ := lcmL_ok hr
    have k4 : lcmL r ≤ 24 := Int.le_of_dvd (by decide) k2
    walk_at "pd"
    refine ev_lcL (it_seqT (ev_var rfl ⟨r.map fr, rfl, by rw [List.length_map]; omega, (wholeR r).map D.int, by rw [List.length_map, List.length_map]; unfold wholeR; rw [List.length_map], fun i d y hd hy => ?_, ?_⟩))
    · rw [List.getElem?_map] at hd hy
      unfold wholeR at hy
      rw [List.getElem?_map] at hy
      cases hp : r[i]? with
      | none => rw [hp] at hd; cases hd
      | some p =>
        rw [hp] at hd hy
        cases hd
        cases hy
        have hm := List.mem_of_getElem? hp
        have e := hr p hm
        have e1 := e.1.1
        have e2 : p.2 ≤ 24 := Int.le_of_dvd (by decide) e.2.2
        refine ⟨[3] ++ [4], by simp, gd_tup2 (gd_name (gd_name ?_))⟩
        walk_at "pd"
        · exact div_small (by omega) (by omega)
        · have q1 : (lcmL r / p.2).natAbs ≤ (lcmL r).natAbs := Int.natAbs_ediv_le_natAbs _ _
          have t1 := e.2.1
          exact mul_small (by omega) (by omega) (by show -1000000000000 < lcmL r / p.2; omega) (by show lcmL r / p.2 < 1000000000000; omega)
        · rfl
    · walk_at "pd"
      exact hP
/-! ### _cleared -/
def F__cleared : FD := fun ds P => ∃ (r q : List Int) (k : Nat) (b : Int) (N s : Nat), ds = [intsD r, intsD q, .int k, .int b] ∧ r.length = N ∧ q.length = N ∧ N ≤ 20 ∧ k < N ∧ b ≠ 0 ∧ b.natAbs < 2 ^ 8000 ∧ (∀ x ∈ r, x.natAbs < 2 ^ (s - 1)) ∧ (∀ x ∈ q, x.natAbs < 2 ^ (s - 1)) ∧ s ≤ 4000 ∧ P (intsD (cstep b k q r))
theorem len__cleared : ∀ ds P, F__cleared ds P → ds.length = 4 := by (intro ds P h; first | exact h | (obtain ⟨_, rfl, _⟩ := h; rfl) | (obtain ⟨_, _, rfl, _⟩ := h; rfl) | (obtain ⟨_, _, _, rfl, _⟩ := h; rfl) | (obtain ⟨_, _, _, _, rfl, _⟩ := h; rfl) | (obtain ⟨_, _, _, _, _, rfl, _⟩ := h; rfl) | (obtain ⟨_, _, _, _, _, _, rfl, _⟩ := h; rfl) | (obtain ⟨_, _, _, _, _, _, _, rfl, _⟩ := h; rfl) | (obtain ⟨_, _, _, _, _, _, _, _, rfl, _⟩ := h; rfl) | (obtain ⟨rfl, _⟩ := h; rfl))
theorem ok__cleared (T : Txt K mg) : FnOk Pg w K mg base CX0 1 T.D__cleared.f T.D__cleared.d ["row", "pivot", "k", "before"] ((spD K F__cleared)) := by
  refine T.D__cleared.F.ok (k := 0) sc__cleared (spD_len (len__cleared)) (fun cdv A outer s H vs Q E hr h => ?_)
  refine ⟨_, (pss_one (ps_ret (pe_lc (own := [("number", 4), ("other", 5)]) rfl sc__cleared.nd (pi_zipAK (K := K) rfl (by rfl) T.n_zip (pa_cons (pv 0) (pa_cons (pv 1) pa_nil))) (blkOk_by (N := ["row", "pivot", "k", "before", "number", "other"]) (sc := defScope s__cleared) (by decide +kernel)) (fun _ _ _ _ _ => (by exact (pg_tupK (K := K) (n := 2) rfl rfl (pgs_cons (pg_name (i := 4) sc__cleared.nd rfl (by first | exact Or.inl rfl | exact Or.inr rfl)) (pgs_cons (pg_name (i := 5) sc__cleared.nd rfl (by first | exact Or.inl rfl | exact Or.inr rfl)) pgs_nil))))) (fun _ _ _ _ _ => pts_nil) (fun _ _ _ _ _ => (pe_op op_fdivS (pe_op op_sub (pe_op op_mulW (pe_ix (ix_seqK (K := K) rfl) (pv 1) (pv 2) (fun _ _ => rfl)) (pv 4)) (pe_op op_mulW (pe_ix (ix_seqK (K := K) rfl) (pv 0) (pv 2) (fun _ _ => rfl)) (pv 5))) (pv 3)))))), ?_⟩
  try dsimp only [cxOf, Cx.blk, Cx.nox, Cx.wish]
  (refine body_of h fun W ds P eK f => ?_); subst eK
  obtain ⟨r, q, k, b, N, s, rfl, lr, lq, n20, hk, hb, hbs, hr, hq, hs, hP⟩ := f
  walk_at "pd"
  refine ev_lcL (it_zipL ?_)
  walk_at "pd"
  have lz : (zipD (r.map D.int) (q.map D.int)).length = N := by
    rw [zipD_len2, List.length_map, List.length_map]
    omega
  have lc : (cstep b k q r).length = N := by
    unfold cstep
    rw [List.length_zipWith]
    omega
  refine ⟨_, _, rfl, by omega, (cstep b k q r).map D.int, by rw [List.length_map, lz, lc], fun j d y hd hy => ?_, ?_⟩
  · obtain ⟨u, v, hu, hv, rfl⟩ := zipD_get hd
    have hj : j < N := by
      have := (List.getElem?_eq_some_iff.mp hd).1
      omega
    have eu : u = .int (r.getD j 0) := by
      rw [getD_nat (by omega)] at hu
      exact (Option.some.inj hu).symm
    have ev : v = .int (q.getD j 0) := by
      rw [getD_nat (by omega)] at hv
      exact (Option.some.inj hv).symm
    have ey : y = .int ((q.getD k 0 * r.getD j 0 - r.getD k 0 * q.getD j 0).fdiv b) := by
      rw [getD_nat (by omega), cstep_at (by omega) (by omega)] at hy
      exact (Option.some.inj hy).symm
    subst eu
    subst ev
    subst ey
    refine ⟨[4] ++ [5], by simp, gd_tup2 (gd_name (gd_name ?_))⟩
    walk_at "pd"
    refine rd_ixL (j := k) rfl (getD_nat (by omega)) ?_
    walk_at "pd"
    · exact mul_okN (getD_small hq _) (getD_small hr _) (by omega)
    refine rd_ixL (j := k) rfl (getD_nat (by omega)) ?_
    walk_at "pd"
    · exact mul_okN (getD_small hr _) (getD_small hq _) (by omega)
    · exact divS_ok hb hbs
    · rfl
  · walk_at "pd"
    exact hP
/-! ### lowest -/
def F_lowest : FD := fun ds P => ∃ a b : Int, ds = [.int a, .int b] ∧ 0 < b ∧ b.natAbs < 2 ^ 8000 ∧ P (fr (lowF a b))
theorem len_lowest : ∀ ds P, F_lowest ds P → ds.length = 2 := by (intro ds P h; first | exact h | (obtain ⟨_, rfl, _⟩ := h; rfl) | (obtain ⟨_, _, rfl, _⟩ := h; rfl) | (obtain ⟨_, _, _, rfl, _⟩ := h; rfl) | (obtain ⟨_, _, _, _, rfl, _⟩ := h; rfl) | (obtain ⟨_, _, _, _, _, rfl, _⟩ := h; rfl) | (obtain ⟨_, _, _, _, _, _, rfl, _⟩ := h; rfl) | (obtain ⟨_, _, _, _, _, _, _, rfl, _⟩ := h; rfl) | (obtain ⟨_, _, _, _, _, _, _, _, rfl, _⟩ := h; rfl) | (obtain ⟨rfl, _⟩ := h; rfl))
theorem ok_lowest (T : Txt K mg) : FnOk Pg w K mg base CX0 1 T.D_lowest.f T.D_lowest.d ["top", "bottom"] ((spD K F_lowest)) := by
  refine T.D_lowest.F.ok (k := 0) sc_lowest (spD_len (len_lowest)) (fun cdv A outer s H vs Q E hr h => ?_)
  refine ⟨_, (pss_cons (ps_set (i := 2) sc_lowest.nd rfl (by first | exact Or.inl rfl | exact Or.inr rfl) (pe_callBfun cr_gcd (by rfl) T.v_gcd (pa_cons (pv 0) (pa_cons (pv 1) pa_nil))))
    (pss_one (ps_ret (pe_tup (pa_cons (pe_op op_fdivW (pv 0) (pv 2)) (pa_cons (pe_op op_fdivW (pv 1) (pv 2)) pa_nil)))))), ?_⟩
  try dsimp only [cxOf, Cx.blk, Cx.nox, Cx.wish]
  (refine body_of h fun W ds P eK f => ?_); subst eK
  obtain ⟨a, b, rfl, hb, hs, hP⟩ := f
  walk_at "pd"
  · exact div_gcd hb hs
  · exact div_gcd hb hs
  · exact hP
/-! ### _solved -/
def szJ (k : Nat) : Nat := 15 * 2 ^ k
theorem szJ_le {k : Nat} (h : k ≤ 5) : szJ k ≤ 480 := by
  unfold szJ
  have : 2 ^ k ≤ 2 ^ 5 := Nat.pow_le_pow_right (by decide) h
  have e : (2 : Nat) ^ 5 = 32 := by decide
  omega
theorem szJ_pos (k : Nat) : 15 ≤ szJ k := by
  unfold szJ
  have : 1 ≤ 2 ^ k := Nat.one_le_two_pow
  omega
theorem szJ_step (k : Nat) : szJ (k + 1) = szJ k + szJ k := by
  unfold szJ
  rw [Nat.pow_succ]
  omega
def swW (k p : Nat) (Ws : List (List Int)) : List (List Int) := (Ws.set k (Ws.getD p [])).set p (Ws.getD k [])
theorem swW_at {k p n : Nat} {Ws : List (List Int)} (hl : Ws.length = n) (hk : k < n) (hp : p < n) {i : Nat} (hi : i < n) : (swW k p Ws).getD i [] = Ws.getD (swp k p i) [] := by
  unfold swW swp
  rw [List.getD_eq_getElem?_getD, List.getElem?_set, List.getElem?_set]
  by_cases h1 : p = i
  · subst h1
    rw [if_pos rfl, if_pos (by rw [List.length_set]; omega)]
    by_cases h2 : p = k
    · subst h2
      rw [if_pos rfl]
      rfl
    · rw [if_neg h2, if_pos rfl]
      rfl
  · rw [if_neg h1]
    by_cases h2 : k = i
    · subst h2
      rw [if_pos rfl, if_pos (by omega), if_pos rfl]
      rfl
    · rw [if_neg h2, if_neg (fun e => h2 e.symm), if_neg (fun e => h1 e.symm), ← List.getD_eq_getElem?_getD]
theorem swW_rows {k p n N s : Nat} {Ws : List (List Int)} (h : RowsOk n N s Ws) (hk : k < n) (hp : p < n) : RowsOk n N s (swW k p Ws) := by
  refine ⟨by unfold swW; rw [List.length_set, List.length_set, h.l], fun r hr => ?_⟩
  obtain ⟨i, hi⟩ := List.mem_iff_getElem?.mp hr
  have hin : i < n := by
    have := (List.getElem?_eq_some_iff.mp hi).1
    unfold swW at this
    rw [List.length_set, List.length_set, h.l] at this
    exact this
  have e := swW_at h.l hk hp hin
  rw [List.getD_eq_getElem?_getD, hi] at e
  have e : r = Ws.getD (swp k p i) [] := e
  obtain ⟨q, hq, eq, _⟩ := h.at (show swp k p i < n by unfold swp; split <;> (try split) <;> omega)
  rw [e, eq]
  exact h.r q (List.mem_of_getElem? hq)
theorem newW_rows {k n N s : Nat} {b : Int} {Ws : List (List Int)} (h : RowsOk n N s Ws) (hk : k < n) (hb : b ≠ 0) (hs : 1 ≤ s) (ex : ∀ i j, i < n → i ≠ k → j < N → ∃ z, (Ws.getD k []).getD k 0 * (Ws.getD i []).getD j 0 - (Ws.getD i []).getD k 0 * (Ws.getD k []).getD j 0 = b * z) : RowsOk n N (s + s) (newW b k Ws) := by
  refine ⟨by unfold newW; rw [List.length_map, List.length_range, h.l], fun r hr => ?_⟩
  unfold newW at hr
  obtain ⟨i, hi, rfl⟩ := List.mem_map.mp hr
  have hin : i < n := by rw [← h.l]; exact List.mem_range.mp hi
  obtain ⟨q, hq, eq, lq, sq⟩ := h.at hk
  obtain ⟨x, hx, ex2, lx, sx⟩ := h.at hin
  by_cases e : i = k
  · rw [if_pos e, eq]
    exact ⟨lq, fun y hy => Nat.lt_of_lt_of_le (sq y hy) (Nat.pow_le_pow_right (by decide) (by omega))⟩
  · rw [if_neg e, eq, ex2]
    have lc : (cstep b k q x).length = N := by
      unfold cstep
      rw [List.length_zipWith]
      omega
    refine ⟨lc, fun y hy => ?_⟩
    obtain ⟨j, hj⟩ := List.mem_iff_getElem?.mp hy
    have hjl := (List.getElem?_eq_some_iff.mp hj).1
    have ey : y = (cstep b k q x).getD j 0 := by rw [List.getD_eq_getElem?_getD, hj]; rfl
    rw [ey, cstep_at (by omega) (by omega)]
    obtain ⟨z, hz⟩ := ex i j hin e (by omega)
    rw [eq, ex2] at hz
    exact fdiv_small hb hz (num_small hs (getD_small sq _) (getD_small sx _) (getD_small sx _) (getD_small sq _))
/-- the places of pivots tried so far -/
def pivJ (Ws : List (List Int)) (k m : Nat) : List Nat := ((List.range m).map (k + ·)).filter fun i => !decide ((Ws.getD i []).getD k 0 = 0)
theorem pivJ_snoc (Ws : List (List Int)) (k m : Nat) : pivJ Ws k (m + 1) = pivJ Ws k m ++ (if !decide ((Ws.getD (k + m) []).getD k 0 = 0) then [k + m] else []) := by
  unfold pivJ
  rw [List.range_succ, List.map_append, List.filter_append]
  congr 1
  rw [List.map_cons, List.map_nil, List.filter_cons]
  split <;> rfl
theorem pivJ_mem {Ws : List (List Int)} {k m i : Nat} (h : i ∈ pivJ Ws k m) : k ≤ i ∧ i < k + m ∧ (Ws.getD i []).getD k 0 ≠ 0 := by
  unfold pivJ at h
  obtain ⟨a, b⟩ := List.mem_filter.mp h
  obtain ⟨j, hj, rfl⟩ := List.mem_map.mp a
  have := List.mem_range.mp hj
  exact ⟨Nat.le_add_right k j, by omega, by simpa using b⟩
theorem pivJ_nil {Ws : List (List Int)} {k n : Nat} (hk : k ≤ n) (h : pivJ Ws k (n - k) = []) : ∀ i, k ≤ i → i < n → (Ws.getD i []).getD k 0 = 0 := fun i hi hn => by
  unfold pivJ at h
  rw [List.filter_eq_nil_iff] at h
  have := h i (List.mem_map.mpr ⟨i - k, List.mem_range.mpr (by omega), by omega⟩)
  simpa using this
def F__solved : FD := fun ds P => ∃ (n w : Nat) (R S : List (List Fr)), ds = [sqD R, .lst (S.map rowD)] ∧ SideOk n w R S ∧ 1 ≤ n ∧ n ≤ 5 ∧ 1 ≤ w ∧ w ≤ 5 ∧ (detQ n R = 0 → P .non) ∧ ∀ res, detQ n R ≠ 0 → Sol n w R S res → P (sqD res)
theorem len__solved : ∀ ds P, F__solved ds P → ds.length = 2 := by (intro ds P h; first | exact h | (obtain ⟨_, rfl, _⟩ := h; rfl) | (obtain ⟨_, _, rfl, _⟩ := h; rfl) | (obtain ⟨_, _, _, rfl, _⟩ := h; rfl) | (obtain ⟨_, _, _, _, rfl, _⟩ := h; rfl) | (obtain ⟨_, _, _, _, _, rfl, _⟩ := h; rfl) | (obtain ⟨_, _, _, _, _, _, rfl, _⟩ := h; rfl) | (obtain ⟨_, _, _, _, _, _, _, rfl, _⟩ := h; rfl) | (obtain ⟨_, _, _, _, _, _, _, _, rfl, _⟩ := h; rfl) | (obtain ⟨rfl, _⟩ := h; rfl))
theorem ok__solved (T : Txt K mg) : FnOk Pg w K mg base CX0 2 T.D__solved.f T.D__solved.d ["numbers", "sides"] ((spD K F__solved)) := by
  have G__cleared := ok__cleared (Pg := Pg) (w := w) (base := base) T
  have G_as_wholes := ok_as_wholes (Pg := Pg) (w := w) (base := base) T
  have G_lowest := ok_lowest (Pg := Pg) (w := w) (base := base) T
  refine T.D__solved.F.ok (k := 1) sc__solved (spD_len (len__solved)) (fun cdv A outer s H vs Q E hr h => ?_)
  refine ⟨_, (pss_cons (ps_set (i := 2) sc__solved.nd rfl (by first | exact Or.inl rfl | exact Or.inr rfl) (pe_lc (own := [("row", 8), ("side", 9)]) rfl sc__solved.nd (pi_zipMK (K := K) rfl (by rfl) T.n_zip (pa_cons (pv 0) (pa_cons (pv 1) pa_nil))) (blkOk_by (N := ["numbers", "sides", "rows", "many", "before", "k", "sign", "pivots", "row", "side", "i", "number"]) (sc := defScope s__solved) (by decide +kernel)) (fun _ _ _ _ _ => (by exact (pg_tupK (K := K) (n := 2) rfl rfl (pgs_cons (pg_name (i := 8) sc__solved.nd rfl (by first | exact Or.inl rfl | exact Or.inr rfl)) (pgs_cons (pg_name (i := 9) sc__solved.nd rfl (by first | exact Or.inl rfl | exact Or.inr rfl)) pgs_nil))))) (fun _ _ _ _ _ => pts_nil) (fun _ _ _ _ _ => (pe_ix (ix_seqK (K := K) rfl) (pe_call G_as_wholes (hr.mono (by decide)) (by rfl) T.D_as_wholes.g T.D_as_wholes.F.kp T.D_as_wholes.b .nil pass0 (pa_cons (pe_op (op_plusK (K := K) rfl) (pv 8) (pv 9)) pa_nil)) pe_int (fun _ _ => rfl)))))
    (pss_cons (ps_set (i := 3) sc__solved.nd rfl (by first | exact Or.inl rfl | exact Or.inr rfl) (pe_callB (call_lenK (K := K) rfl) (by rfl) T.n_len (by decide +kernel) (pa_cons (pv 2) pa_nil)))
    (pss_cons (ps_set (i := 4) sc__solved.nd rfl (by first | exact Or.inl rfl | exact Or.inr rfl) pe_int)
    (pss_cons (ps_for PassesOwn.never rfl (pi_range1 (by rfl) T.n_range (pa_cons (pv 3) pa_nil)) (pg_name (i := 5) sc__solved.nd rfl (by first | exact Or.inl rfl | exact Or.inr rfl))
      (pss_cons (ps_setLc (i := 7) (own := [("i", 10)]) rfl sc__solved.nd rfl rfl (sw_true rfl rfl rfl (by decide +kernel)) (pi_range2 (by rfl) T.n_range (pa_cons (pv 5) (pa_cons (pv 3) pa_nil))) (blkOk_by (N := ["numbers", "sides", "rows", "many", "before", "k", "sign", "pivots", "row", "side", "i", "number"]) (sc := defScope s__solved) (by decide +kernel)) (fun _ _ _ _ _ => (pg_name (i := 10) sc__solved.nd rfl (by first | exact Or.inl rfl | exact Or.inr rfl))) (fun _ _ _ _ _ => (pts_one (pt_cmpR (op_neDK (K := K) rfl (hr_u hr)) (pe_ix (ix_seqK (K := K) rfl) (pe_ix (ix_seqK (K := K) rfl) (pv 2) (pv 10) (fun _ _ => rfl)) (pv 5) (fun _ _ => rfl)) pe_int (nomark _)))) (fun _ _ _ _ _ => (pv 10)))
    (pss_cons (ps_if (pt_cmpR (op_eqDK (K := K) rfl (hr_u hr)) (pe_callB (call_lenK (K := K) rfl) (by rfl) T.n_len (by decide +kernel) (pa_cons (pv 7) pa_nil)) pe_int (nomark _))
      (pss_one (ps_ret pe_non))
      pss_nil)
    (pss_cons (ps_asg (pe_tup (pa_cons (pe_ix (ix_seqK (K := K) rfl) (pv 2) (pe_ix (ix_seqK (K := K) rfl) (pv 7) pe_int (fun _ _ => rfl)) (fun _ _ => rfl)) (pa_cons (pe_ix (ix_seqK (K := K) rfl) (pv 2) (pv 5) (fun _ _ => rfl)) pa_nil))) (by exact (pg_tupK (K := K) (n := 2) rfl rfl (pgs_cons (pg_sub (pv 2) (pv 5) set_list) (pgs_cons (pg_sub (pv 2) (pe_ix (ix_seqK (K := K) rfl) (pv 7) pe_int (fun _ _ => rfl)) set_list) pgs_nil)))))
    (pss_cons (ps_set (i := 2) sc__solved.nd rfl (by first | exact Or.inl rfl | exact Or.inr rfl) (pe_lc (own := [("i", 10), ("row", 8)]) rfl sc__solved.nd (pi_enumAK (K := K) rfl (by rfl) T.n_enumerate (pa_cons (pv 2) pa_nil)) (blkOk_by (N := ["numbers", "sides", "rows", "many", "before", "k", "sign", "pivots", "row", "side", "i", "number"]) (sc := defScope s__solved) (by decide +kernel)) (fun _ _ _ _ _ => (by exact (pg_tupK (K := K) (n := 2) rfl rfl (pgs_cons (pg_name (i := 10) sc__solved.nd rfl (by first | exact Or.inl rfl | exact Or.inr rfl)) (pgs_cons (pg_name (i := 8) sc__solved.nd rfl (by first | exact Or.inl rfl | exact Or.inr rfl)) pgs_nil))))) (fun _ _ _ _ _ => pts_nil) (fun _ _ _ _ _ => (pe_ifExp (pt_cmpR (op_eqDK (K := K) rfl (hr_u hr)) (pv 10) (pv 5) (nomark _)) (pv 8) (pe_call G__cleared (hr.mono (by decide)) (by rfl) T.D__cleared.g T.D__cleared.F.kp T.D__cleared.b .nil pass0 (pa_cons (pv 8) (pa_cons (pe_ix (ix_seqK (K := K) rfl) (pv 2) (pv 5) (fun _ _ => rfl)) (pa_cons (pv 5) (pa_cons (pv 4) pa_nil)))))))))
    (pss_one (ps_set (i := 4) sc__solved.nd rfl (by first | exact Or.inl rfl | exact Or.inr rfl) (pe_ix (ix_seqK (K := K) rfl) (pe_ix (ix_seqK (K := K) rfl) (pv 2) (pv 5) (fun _ _ => rfl)) (pv 5) (fun _ _ => rfl)))))))))
    (pss_cons (ps_set (i := 6) sc__solved.nd rfl (by first | exact Or.inl rfl | exact Or.inr rfl) (pe_ifExp (pt_cmpR op_gt (pv 4) pe_int (nomark _)) pe_int (pe_un un_neg pe_int)))
    (pss_one (ps_ret (pe_callTy (call_tuple_ofK (K := K) rfl) (by rfl) T.n_tuple (by decide +kernel) (pa_cons (pe_lc (own := [("row", 8)]) rfl sc__solved.nd (pi_seqK (K := K) rfl (pv 2)) (blkOk_by (N := ["numbers", "sides", "rows", "many", "before", "k", "sign", "pivots", "row", "side", "i", "number"]) (sc := defScope s__solved) (by decide +kernel)) (fun _ _ _ _ _ => (pg_name (i := 8) sc__solved.nd rfl (by first | exact Or.inl rfl | exact Or.inr rfl))) (fun _ _ _ _ _ => pts_nil) (fun _ _ _ _ _ => (pe_callTy (call_tuple_ofK (K := K) rfl) (by rfl) T.n_tuple (by decide +kernel) (pa_cons (pe_lc (own := [("number", 11)]) rfl sc__solved.nd (pi_seqK (K := K) rfl (pe_slice (sl_listK (K := K) rfl) (pv 8) (po_some (pv 3)) po_none)) (by exact blkOk_by (N := ["numbers", "sides", "rows", "many", "before", "k", "sign", "pivots", "row", "side", "i", "number"]) (by kernel_rfl)) (fun _ _ _ _ _ => (pg_name (i := 11) sc__solved.nd rfl (by first | exact Or.inl rfl | exact Or.inr rfl))) (fun _ _ _ _ _ => pts_nil) (fun _ _ _ _ _ => (pe_call G_lowest (hr.mono (by decide)) (by rfl) T.D_lowest.g T.D_lowest.F.kp T.D_lowest.b .nil pass0 (pa_cons (pe_op op_mulW (pv 6) (pv 11)) (pa_cons (pe_op op_mulW (pv 6) (pv 4)) pa_nil))))) pa_nil)))) pa_nil))))))))), ?_⟩
  try dsimp only [cxOf, Cx.blk, Cx.nox, Cx.wish]
  refine body_ofO h fun W ds P eK f => ?_
  subst eK
  obtain ⟨n, w, R, S, rfl, ok, n1, n5, w1, w5, hN, hP⟩ := f
  have lR := ok.R.1.1
  have lS := ok.l
  refine so_seq (so_asgF (ev_lcLF (it_zipM ?_)))
  walk_at "pd"
  have lz : (zipD (R.map rowD) (S.map rowD)).length = n := by
    rw [zipD_len2, List.length_map, List.length_map]
    omega
  have lsd : (sides R S).length = n := by
    unfold sides
    rw [List.length_zipWith]
    omega
  refine ⟨_, _, rfl, by rw [List.length_map, List.length_map, lR, lS], by omega, ((sides R S).map wholeR).map intsD, by rw [List.length_map, List.length_map, lsd, lz], fun i d y hd hy => ?_, fun p0 _ => ?_⟩
  · obtain ⟨u, v, hu, hv, rfl⟩ := zipD_get hd
    have hi : i < n := by
      have := (List.getElem?_eq_some_iff.mp hd).1
      omega
    obtain ⟨r, s, hr, hs, _, _, lr, ls, he, hz, _⟩ := ok.at hi
    rw [List.getElem?_map, hr] at hu
    rw [List.getElem?_map, hs] at hv
    rw [List.getElem?_map, List.getElem?_map, hz] at hy
    cases hu
    cases hv
    cases hy
    refine ⟨[8] ++ [9], by simp, gd_tup2 (gd_name (gd_name ?_))⟩
    walk_at "pd"
    refine rd_plusT (by rw [List.length_map, List.length_map]; omega) ?_
    rw [← List.map_append]
    walk_at "pd"
    refine ⟨r ++ s, rfl, by rw [List.length_append]; omega, he, ?_⟩
    walk_at "pd"
    rfl
  have sW : RowsOk n (n + w) (szJ 0) ((sides R S).map wholeR) := by
    refine ⟨by rw [List.length_map, lsd], fun r hr => ?_⟩
    obtain ⟨x, hx, rfl⟩ := List.mem_map.mp hr
    obtain ⟨i, hi⟩ := List.mem_iff_getElem?.mp hx
    have hin : i < n := by
      have := (List.getElem?_eq_some_iff.mp hi).1
      omega
    obtain ⟨r, s, _, _, _, _, lr, ls, he, hz, _⟩ := ok.at hin
    rw [hz] at hi
    cases hi
    refine ⟨by unfold wholeR; rw [List.length_map, List.length_append, lr, ls], ?_⟩
    exact whole_small he
  have h0 := sol_start ok
  refine so_seq (so_asgL (evl_put (a := p0) 2 rfl List.mem_cons_self (evl_ev ?_)))
  walk_at "pd"
  refine ⟨rfl, ?_⟩
  have lW : ((((sides R S).map wholeR).map intsD).length : Int) = (n : Int) := by rw [List.length_map, List.length_map, lsd]
  rw [lW]
  refine so_seq (so_asg ?_)
  walk_at "pd"
  refine so_seq (so_for (it_rng1 ?_))
  walk_at "pd"
  refine ⟨_, rfl, by omega, by omega, fun k ω δ => ∃ (p : Addr) (Ws : List (List Int)) (b : Int) (A : Nat → Nat → Rat) (x5 x6 x7 x8 x9 x10 x11 : Option D), Has ω p (Ws.map intsD) ∧ δ = [some (sqD R), some (.lst (S.map rowD)), some (.obj p), some (.int n), some (.int b), x5, x6, x7, x8, x9, x10, x11] ∧ b ≠ 0 ∧ JI n (n + w) k (b : Rat) (fnW Ws) A (detQ n R) (KerS n w R S) (LinS n R S) ∧ RowsOk n (n + w) (szJ k) Ws ∧ b.natAbs < 2 ^ 600,
    ⟨p0, _, 1, _, none, none, none, none, none, none, none, Has.new (fun x hx => by cases hx), rfl, by decide, h0, sW, Nat.one_lt_two_pow (by decide)⟩, fun k d ω δ hd hI => ?_, fun ω δ hI => ?_⟩
  · obtain ⟨p, Ws, b, A, x5, x6, x7, x8, x9, x10, x11, hp, rfl, hb, ji, hw, hbs⟩ := hI
    obtain ⟨hk, rfl⟩ := rngD_get hd
    have hkn : k < n := by omega
    have lWs := hw.l
    have j0 : (0 + (k : Int)) = (k : Int) := by omega
    refine ⟨_, gd_name ?_⟩
    rw [j0]
    obtain ⟨r0, rt, hWs⟩ : ∃ r0 rt, Ws = r0 :: rt := by
      cases Ws with
      | nil => simp at lWs; omega
      | cons r0 rt => exact ⟨r0, rt, rfl⟩
    -- the places of pivots
    refine so_seq (so_asgP (j := 2) (a := p) rfl hp.1 (ev_lcF (it_rng2 ?_)))
    walk_at "pd"
    refine ⟨_, _, rfl, ⟨by omega, by omega, by omega, by omega⟩, by rw [rngD_length]; omega, fun m acc => acc = (pivJ Ws k m).map fun i : Nat => D.int i, rfl, fun m d acc hd ha => ?_, fun acc ha => ?_⟩
    · have ha : acc = (pivJ Ws k m).map fun i : Nat => D.int i := ha
      subst ha
      obtain ⟨hm, rfl⟩ := rngD_get hd
      have hmn : k + m < n := by omega
      obtain ⟨r, hr, er, lr, sr⟩ := hw.at hmn
      refine ⟨[10], by simp, gd_name ?_⟩
      walk_at "pd"
      refine rd_ixL (j := k + m) (by omega) (by rw [List.getElem?_map, hr]; rfl) ?_
      walk_at "pd"
      refine rd_ixL (j := k) rfl (getD_nat (by omega)) ?_
      walk_at "pd"
      have em : (k : Int) + (m : Int) = ((k + m : Nat) : Int) := by omega
      refine ⟨fun q => ?_, fun q => ?_⟩
      · walk_at "pd"
        show _ = (pivJ Ws k (m + 1)).map _
        rw [pivJ_snoc, er, if_pos q, List.map_append, em]
        rfl
      · show _ = (pivJ Ws k (m + 1)).map _
        rw [pivJ_snoc, er, if_neg (by rw [q]; decide), List.append_nil]
    have ha : acc = (pivJ Ws k (rngD (k : Int) ((n : Int) - (k : Int)).toNat).length).map fun i : Nat => D.int i := ha
    rw [rngD_length, show ((n : Int) - (k : Int)).toNat = n - k by omega] at ha
    subst ha
    refine ⟨nrefs_of fun x hx => by
      obtain ⟨i, _, rfl⟩ := List.mem_map.mp hx
      rfl, fun pp fresh => ?_⟩
    have ne : pp ≠ p := fun e => fresh _ hp.1 e.symm
    cases hpv : pivJ Ws k (n - k) with
    | nil =>
      have z := sol_none ji hkn fun i h1 h2 => by
        show (((Ws.getD i []).getD k 0 : Int) : Rat) = 0
        rw [pivJ_nil (Nat.le_of_lt hkn) hpv i h1 h2]
        rfl
      refine so_seq (so_ifL (evtl_put (a := pp) 7 rfl List.mem_cons_self (evtl_ev ?_)))
      walk_at "pd"
      refine so_lift ?_
      walk_at "pd"
      exact hN z
    | cons i0 rest =>
      obtain ⟨i1, i2, i3⟩ := pivJ_mem (show i0 ∈ pivJ Ws k (n - k) by rw [hpv]; exact List.mem_cons_self)
      have hin : i0 < n := by omega
      refine so_seq (so_ifL (evtl_put (a := pp) 7 rfl List.mem_cons_self (evtl_ev ?_)))
      walk_at "pd"
      refine so_next ?_
      obtain ⟨ra, ha1, ha2, _⟩ := hw.at hin
      obtain ⟨rk, hk1, hk2, _⟩ := hw.at hkn
      refine so_seq (so_swap (a := p) (p2 := pp) (ps := rest.map fun i : Nat => D.int i) (k := k) (i0 := i0) (d1 := intsD ra) (d2 := intsD rk) rfl (hp.cons (Ne.symm ne)) rfl (Has.new fresh) ne rfl (by rw [List.getElem?_map, ha1]; rfl) (by rw [List.getElem?_map, hk1]; rfl) ?_)
      have hsw : ∀ ω', (putO (putO ω' p fun es => es.set k (intsD ra)) p fun es => es.set i0 (intsD rk)) = (putO (putO ω' p fun es => es.set k (intsD ra)) p fun es => es.set i0 (intsD rk)) := fun _ => rfl
      have es : ((Ws.map intsD).set k (intsD ra)).set i0 (intsD rk) = (swW k i0 Ws).map intsD := by
        unfold swW
        rw [ha2, hk2, List.map_set, List.map_set]
      have hp2 : Has (putO (putO ((pp, (i0 :: rest).map fun i : Nat => D.int i) :: ω) p fun es => es.set k (intsD ra)) p fun es => es.set i0 (intsD rk)) p ((swW k i0 Ws).map intsD) := by
        have := ((hp.cons (Ne.symm ne) (ds := (i0 :: rest).map fun i : Nat => D.int i)).put (f := fun es => es.set k (intsD ra))).put (f := fun es => es.set i0 (intsD rk))
        rw [es] at this
        exact this
      have js := (ji.swap i1 hin).congr (X' := fnW (swW k i0 Ws)) fun i hi => by
        unfold fnW
        rw [swW_at lWs hkn hin hi]
      have hws := swW_rows hw hkn hin
      have lsw := hws.l
      obtain ⟨qk, hq1, hq2, lq, sq⟩ := hws.at hkn
      have hpk : ((swW k i0 Ws).getD k []).getD k 0 ≠ 0 := by
        rw [swW_at lWs hkn hin hkn]
        unfold swp
        rw [if_pos rfl]
        exact i3
      obtain ⟨jn, ex⟩ := newW_step hb js hws hkn hpk fun a c x y hx hy => hx.lin a c x y hy
      have hnw := newW_rows hws hkn hb (by have := szJ_pos k; omega) ex
      rw [← szJ_step] at hnw
      have lnw := hnw.l
      obtain ⟨q0, qt, hqs⟩ : ∃ q0 qt, swW k i0 Ws = q0 :: qt := by
        cases h : swW k i0 Ws with
        | nil => rw [h] at lsw; simp at lsw; omega
        | cons q0 qt => exact ⟨q0, qt, rfl⟩
      have hm3 := hp2.1
      rw [hqs, List.map_cons] at hm3
      have s4 : szJ k ≤ 480 := szJ_le (by omega)
      have eZ : intsD q0 :: qt.map intsD = (swW k i0 Ws).map intsD := by rw [hqs]; rfl
      refine so_seq (so_asgI (j := 2) (a := p) (l := q0) (ds := qt.map intsD) rfl hm3 (ev_lcLF (it_enumAL ?_)))
      rw [eZ]
      walk_at "pd"
      refine ⟨_, rfl, by rw [enumD_length, List.length_map, lsw]; omega, (newW b k (swW k i0 Ws)).map intsD, by rw [List.length_map, enumD_length, List.length_map, lnw, lsw], fun i d y hd hy => ?_, ⟨⟨_, rfl⟩, fun p3 fresh3 => ?_⟩⟩
      · obtain ⟨x, hx, rfl⟩ := enumD_get hd
        have hi : i < n := by
          have := (List.getElem?_eq_some_iff.mp hx).1
          rw [List.length_map] at this
          omega
        obtain ⟨r, hr1, hr2, lr, sr⟩ := hws.at hi
        rw [List.getElem?_map, hr1] at hx
        cases hx
        have ey : y = intsD (if i = k then qk else cstep b k qk r) := by
          unfold newW at hy
          rw [List.getElem?_map, List.getElem?_map, List.getElem?_range (by omega)] at hy
          rw [← hq2, ← hr2]
          exact (Option.some.inj hy).symm
        subst ey
        refine ⟨[10] ++ [8], by simp, gd_tup2 (gd_name (gd_name ?_))⟩
        walk_at "pd"
        refine ⟨fun e => ?_, fun e => ?_⟩
        · have e := of_decide_eq_true e
          walk_at "pd"
          rw [if_pos (by omega)]
          have : i = k := by omega
          subst this
          rw [hq1] at hr1
          cases hr1
          rfl
        · have e := of_decide_eq_false e
          walk_at "pd"
          refine rd_ixL (j := k) rfl (by rw [List.getElem?_map, hq1]; rfl) ?_
          walk_at "pd"
          refine ⟨r, qk, k, b, n + w, szJ k, rfl, lr, lq, by omega, by omega, hb, Nat.lt_of_lt_of_le hbs (Nat.pow_le_pow_right (by decide) (by decide)), sr, sq, by omega, ?_⟩
          rw [if_neg (by omega)]
      · refine so_asgL (evl_put (a := p3) 2 rfl List.mem_cons_self (evl_ev ?_))
        walk_at "pd"
        have gk : (newW b k (swW k i0 Ws))[k]? = some qk := by
          unfold newW
          rw [List.getElem?_map, List.getElem?_range (by omega)]
          show some (if k = k then _ else _) = _
          rw [if_pos rfl, hq2]
        refine rd_ixL (j := k) rfl (by rw [List.getElem?_map, gk]; rfl) ?_
        walk_at "pd"
        refine rd_ixL (j := k) rfl (getD_nat (by omega)) ?_
        rw [hq2] at jn hpk
        refine ⟨rfl, p3, newW b k (swW k i0 Ws), qk.getD k 0, _, some (.int k), x6, some (.obj pp), x8, x9, x10, x11, Has.new fresh3, rfl, hpk, jn, hnw, Nat.lt_of_lt_of_le (getD_small sq k) (Nat.pow_le_pow_right (by decide) (by omega))⟩
  · obtain ⟨p, Ws, b, A, x5, x6, x7, x8, x9, x10, x11, hp, rfl, hb, ji, hw, hbs⟩ := hI
    have en : (rngD 0 ((n : Int)).toNat).length = n := by rw [rngD_length]; omega
    rw [en] at ji hw
    have hR := hP _ (sol_some ji) (sol_end ok hb ji hw (Nat.le_trans (szJ_le n5) (by decide)) hbs)
    obtain ⟨sg, hsg⟩ : ∃ sg : Int, sg = if 0 < b then 1 else -1 := ⟨_, rfl⟩
    refine so_seq (so_asg (ev_mono (P := fun d => d = D.int sg) ?_ fun d hd => ?_))
    · walk_at "pd"
      refine ⟨fun e => ?_, fun e => ?_⟩
      · have e := of_decide_eq_true e
        walk_at "pd"
        rw [hsg, if_pos e]
      · have e := of_decide_eq_false e
        walk_at "pd"
        rw [hsg, if_neg e]
    subst hd
    refine so_retL (evl_put (a := p) 2 rfl hp.1 (evl_ev ?_))
    walk_at "pd"
    have lW := hw.l
    have sgn : sg.natAbs < 2 ^ 1 := by rw [hsg]; split <;> decide
    have pos : 0 < sg * b := by rw [hsg]; split <;> omega
    have s5 : szJ n ≤ 480 := szJ_le n5
    refine ev_lcL (it_seqL (ev_var rfl ⟨_, rfl, by rw [List.length_map, lW]; omega, (resS n w b Ws).map rowD, by unfold resS; rw [List.length_map, List.length_map, List.length_range, List.length_map, lW], fun i d y hd hy => ?_, ?_⟩))
    · have hi : i < n := by
        have := (List.getElem?_eq_some_iff.mp hd).1
        rw [List.length_map] at this
        omega
      obtain ⟨r, hr1, hr2, lr, sr⟩ := hw.at hi
      rw [List.getElem?_map, hr1] at hd
      cases hd
      have ey : y = rowD ((List.range w).map fun j => lowF (sg * r.getD (n + j) 0) (sg * b)) := by
        unfold resS at hy
        rw [List.getElem?_map, List.getElem?_map, List.getElem?_range hi] at hy
        rw [← hr2, hsg]
        exact (Option.some.inj hy).symm
      subst ey
      refine ⟨[8], by simp, gd_name ?_⟩
      walk_at "pd"
      refine ev_lcL (it_seqL (ev_slL ?_))
      walk_at "pd"
      have cut := cutD_hi (r.map D.int) n
      rw [← List.map_drop] at cut
      have ld : (r.drop n).length = w := by rw [List.length_drop]; omega
      refine ⟨_, rfl, ?_⟩
      walk_at "pd"
      refine ⟨_, rfl, ?_⟩
      walk_at "pd"
      rw [cut]
      refine ⟨_, rfl, by rw [List.length_map, ld]; omega, ((List.range w).map fun j => lowF (sg * r.getD (n + j) 0) (sg * b)).map fr, by rw [List.length_map, List.length_map, List.length_range, List.length_map, ld], fun j d y hd hy => ?_, ?_⟩
      · have hj : j < w := by
          have := (List.getElem?_eq_some_iff.mp hd).1
          rw [List.length_map] at this
          omega
        have ed : d = .int (r.getD (n + j) 0) := by
          rw [List.getElem?_map, List.getElem?_drop] at hd
          have := getD_nat (l := r) (j := n + j) (by omega)
          rw [List.getElem?_map] at this
          rw [this] at hd
          exact (Option.some.inj hd).symm
        have ey : y = fr (lowF (sg * r.getD (n + j) 0) (sg * b)) := by
          rw [List.getElem?_map, List.getElem?_map, List.getElem?_range hj] at hy
          exact (Option.some.inj hy).symm
        subst ed
        subst ey
        refine ⟨[11], by simp, gd_name ?_⟩
        walk_at "pd"
        · exact mul_okN sgn (getD_small sr _) (by omega)
        · exact mul_okN sgn hbs (by decide)
        refine ⟨_, _, rfl, pos, Nat.lt_of_lt_of_le (mul_lt sgn hbs) (Nat.pow_le_pow_right (by decide) (by decide)), ?_⟩
        rfl
      · walk_at "pd"
        rfl
    · walk_at "pd"
      refine ⟨nref_tup fun x hx => ?_, hR⟩
      obtain ⟨r, _, rfl⟩ := List.mem_map.mp hx
      exact nref_un r
/-! ### inverse -/
def idS (n : Nat) : List (List Fr) := (List.range n).map fun i => (List.range n).map fun j => if i = j then (1, 1) else (0, 1)
def F_inverse : FD := fun ds P => ∃ (n : Nat) (R : List (List Fr)), ds = [sqD R] ∧ SqB n R ∧ 1 ≤ n ∧ n ≤ 5 ∧ (detQ n R = 0 → P .non) ∧ ∀ res, detQ n R ≠ 0 → Sol n n R (idS n) res → P (sqD res)
theorem len_inverse : ∀ ds P, F_inverse ds P → ds.length = 1 := by (intro ds P h; first | exact h | (obtain ⟨_, rfl, _⟩ := h; rfl) | (obtain ⟨_, _, rfl, _⟩ := h; rfl) | (obtain ⟨_, _, _, rfl, _⟩ := h; rfl) | (obtain ⟨_, _, _, _, rfl, _⟩ := h; rfl) | (obtain ⟨_, _, _, _, _, rfl, _⟩ := h; rfl) | (obtain ⟨_, _, _, _, _, _, rfl, _⟩ := h; rfl) | (obtain ⟨_, _, _, _, _, _, _, rfl, _⟩ := h; rfl) | (obtain ⟨_, _, _, _, _, _, _, _, rfl, _⟩ := h; rfl) | (obtain ⟨rfl, _⟩ := h; rfl))
theorem ok_inverse (T : Txt K mg) : FnOk Pg w K mg base CX0 5 T.D_inverse.f T.D_inverse.d ["numbers"] ((spD K F_inverse)) := by
  have G__solved := ok__solved (Pg := Pg) (w := w) (base := base) T
  have G_check_square_numbers := ok_check_square_numbers (Pg := Pg) (w := w) (base := base) T
  refine T.D_inverse.F.ok (k := 4) sc_inverse (spD_len (len_inverse)) (fun cdv A outer s H vs Q E hr h => ?_)
  refine ⟨_, (pss_cons (ps_expr (pe_call G_check_square_numbers (hr.mono (by decide)) (by rfl) T.D_check_square_numbers.g T.D_check_square_numbers.F.kp T.D_check_square_numbers.b .nil pass0 (pa_cons (pv 0) pa_nil)))
    (pss_cons (ps_set (i := 1) sc_inverse.nd rfl (by first | exact Or.inl rfl | exact Or.inr rfl) (pe_callTy cr_rng1 (by rfl) T.n_range (by decide +kernel) (pa_cons (pe_callB (call_lenK (K := K) rfl) (by rfl) T.n_len (by decide +kernel) (pa_cons (pv 0) pa_nil)) pa_nil)))
    (pss_one (ps_ret (pe_call G__solved (hr.mono (by decide)) (by rfl) T.D__solved.g T.D__solved.F.kp T.D__solved.b .nil pass0 (pa_cons (pv 0) (pa_cons (pe_lc (own := [("i", 2)]) rfl sc_inverse.nd (pi_rngV (pv 1)) (blkOk_by (N := ["numbers", "places", "i", "j"]) (sc := defScope s_inverse) (by decide +kernel)) (fun _ _ _ _ _ => (pg_name (i := 2) sc_inverse.nd rfl (by first | exact Or.inl rfl | exact Or.inr rfl))) (fun _ _ _ _ _ => pts_nil) (fun _ _ _ _ _ => (pe_callTy (call_tuple_ofK (K := K) rfl) (by rfl) T.n_tuple (by decide +kernel) (pa_cons (pe_lc (own := [("j", 3)]) rfl sc_inverse.nd (pi_rngV (pv 1)) (by exact blkOk_by (N := ["numbers", "places", "i", "j"]) (by kernel_rfl)) (fun _ _ _ _ _ => (pg_name (i := 3) sc_inverse.nd rfl (by first | exact Or.inl rfl | exact Or.inr rfl))) (fun _ _ _ _ _ => pts_nil) (fun _ _ _ _ _ => (pe_ifExp (pt_cmpR (op_eqDK (K := K) rfl (hr_u hr)) (pv 2) (pv 3) (nomark _)) (pe_tup (pa_cons pe_int (pa_cons pe_int pa_nil))) (pe_tup (pa_cons pe_int (pa_cons pe_int pa_nil)))))) pa_nil)))) pa_nil))))))), ?_⟩
  try dsimp only [cxOf, Cx.blk, Cx.nox, Cx.wish]
  (refine body_of h fun W ds P eK f => ?_); subst eK
  obtain ⟨n, R, rfl, hR, n1, n5, hN, hP⟩ := f
  walk_at "pd"
  have lR := hR.1.1
  refine ⟨n, R, rfl, hR.1, n1, by omega, fun r hr p hp => (hR.2 r hr p hp).1, ?_⟩
  walk_at "pd"
  refine rc_rng1 ?_
  walk_at "pd"
  have row : ∀ i, i < n → (idS n)[i]? = some ((List.range n).map fun j => if i = j then (1, 1) else (0, 1)) := fun i hi => by
    unfold idS
    rw [List.getElem?_map, List.getElem?_range hi]
    rfl
  have ln : ((R.map rowD).length : Int) = n := by rw [List.length_map, lR]
  rw [ln]
  refine ev_lcL (it_rngV ?_)
  walk_at "pd"
  refine ⟨_, rfl, by omega, by omega, by rw [rngD_length]; omega, (idS n).map rowD, by unfold idS; rw [List.length_map, List.length_map, List.length_range, rngD_length]; omega, fun i d y hd hy => ?_, ?_⟩
  · obtain ⟨hi, rfl⟩ := rngD_get hd
    have hin : i < n := by omega
    rw [List.getElem?_map, row i hin] at hy
    cases hy
    refine ⟨[2], by simp, gd_name ?_⟩
    walk_at "pd"
    refine ev_lcL (it_rngV ?_)
    walk_at "pd"
    refine ⟨_, rfl, by omega, by omega, by rw [rngD_length]; omega, ((List.range n).map fun j => if i = j then ((1, 1) : Fr) else (0, 1)).map fr, by rw [List.length_map, List.length_map, List.length_range, rngD_length]; omega, fun j d y hd hy => ?_, ?_⟩
    · obtain ⟨hj, rfl⟩ := rngD_get hd
      have hjn : j < n := by omega
      rw [List.getElem?_map, List.getElem?_map, List.getElem?_range hjn] at hy
      cases hy
      refine ⟨[3], by simp, gd_name ?_⟩
      walk_at "pd"
      refine ⟨fun e => ?_, fun e => ?_⟩
      · have e := of_decide_eq_true e
        walk_at "pd"
        show _ = fr (if i = j then _ else _)
        rw [if_pos (by omega)]
      · have e := of_decide_eq_false e
        walk_at "pd"
        show _ = fr (if i = j then _ else _)
        rw [if_neg (by omega)]
    · walk_at "pd"
      rfl
  · walk_at "pd"
    refine ⟨n, n, R, idS n, rfl, ⟨hR, by unfold idS; rw [List.length_map, List.length_range], fun s hs => ?_⟩, n1, n5, n1, n5, hN, hP⟩
    unfold idS at hs
    obtain ⟨i, _, rfl⟩ := List.mem_map.mp hs
    refine ⟨by rw [List.length_map, List.length_range], fun p hp => ?_⟩
    obtain ⟨j, _, rfl⟩ := List.mem_map.mp hp
    split
    · exact ⟨⟨by decide, by decide⟩, by decide, by decide⟩
    · exact entB0
/-! ### solution -/
def F_solution : FD := fun ds P => ∃ (n : Nat) (R : List (List Fr)) (t : List Fr), ds = [sqD R, rowD t] ∧ SqB n R ∧ t.length = n ∧ (∀ p ∈ t, EntB p) ∧ 1 ≤ n ∧ n ≤ 5 ∧ (detQ n R = 0 → P .non) ∧ ∀ res, detQ n R ≠ 0 → Sol n 1 R (t.map fun p => [p]) res → P (rowD (res.map fun r => r.getD 0 (0, 1)))
theorem len_solution : ∀ ds P, F_solution ds P → ds.length = 2 := by (intro ds P h; first | exact h | (obtain ⟨_, rfl, _⟩ := h; rfl) | (obtain ⟨_, _, rfl, _⟩ := h; rfl) | (obtain ⟨_, _, _, rfl, _⟩ := h; rfl) | (obtain ⟨_, _, _, _, rfl, _⟩ := h; rfl) | (obtain ⟨_, _, _, _, _, rfl, _⟩ := h; rfl) | (obtain ⟨_, _, _, _, _, _, rfl, _⟩ := h; rfl) | (obtain ⟨_, _, _, _, _, _, _, rfl, _⟩ := h; rfl) | (obtain ⟨_, _, _, _, _, _, _, _, rfl, _⟩ := h; rfl) | (obtain ⟨rfl, _⟩ := h; rfl))
theorem ok_solution (T : Txt K mg) : FnOk Pg w K mg base CX0 5 T.D_solution.f T.D_solution.d ["numbers", "right"] ((spD K F_solution)) := by
  have G__solved := ok__solved (Pg := Pg) (w := w) (base := base) T
  have G_check_square_numbers := ok_check_square_numbers (Pg := Pg) (w := w) (base := base) T
  have G_is_fraction := ok_is_fraction (Pg := Pg) (w := w) (base := base) T
  refine T.D_solution.F.ok (k := 4) sc_solution (spD_len (len_solution)) (fun cdv A outer s H vs Q E hr h => ?_)
  refine ⟨_, (pss_cons (ps_expr (pe_call G_check_square_numbers (hr.mono (by decide)) (by rfl) T.D_check_square_numbers.g T.D_check_square_numbers.F.kp T.D_check_square_numbers.b .nil pass0 (pa_cons (pv 0) pa_nil)))
    (pss_cons (ps_if (PW.pt (pw_or (pt_not (pt_val (pe_callB (call_isiK' (K := K) rfl) (by rfl) T.n_isinstance (by decide +kernel) (pa_cons (pv 1) (pa_cons (pe_bltn (v := .ty "tuple") (u := .type "tuple") (by rfl) T.n_tuple (by decide +kernel) rfl) pa_nil))))) (pw_or (pt_cmpR (op_neDK (K := K) rfl (hr_u hr)) (pe_callB (call_lenK (K := K) rfl) (by rfl) T.n_len (by decide +kernel) (pa_cons (pv 1) pa_nil)) (pe_callB (call_lenK (K := K) rfl) (by rfl) T.n_len (by decide +kernel) (pa_cons (pv 0) pa_nil)) (nomark _)) (pw_or1 (pt_not (pt_val (pe_callB (cr_allK (K := K) rfl rfl) (by rfl) T.n_all (by decide +kernel) (pa_cons (pe_lc (own := [("side", 3)]) rfl sc_solution.nd (pi_seqK (K := K) rfl (pv 1)) (blkOk_by (N := ["numbers", "right", "rows", "side", "row"]) (sc := defScope s_solution) (by decide +kernel)) (fun _ _ _ _ _ => (pg_name (i := 3) sc_solution.nd rfl (by first | exact Or.inl rfl | exact Or.inr rfl))) (fun _ _ _ _ _ => pts_nil) (fun _ _ _ _ _ => (pe_call G_is_fraction (hr.mono (by decide)) (by rfl) T.D_is_fraction.g T.D_is_fraction.F.kp T.D_is_fraction.b .nil pass0 (pa_cons (pv 3) pa_nil)))) pa_nil))))))))
      (pss_one ps_never)
      pss_nil)
    (pss_cons (ps_set (i := 2) sc_solution.nd rfl (by first | exact Or.inl rfl | exact Or.inr rfl) (pe_call G__solved (hr.mono (by decide)) (by rfl) T.D__solved.g T.D__solved.F.kp T.D__solved.b .nil pass0 (pa_cons (pv 0) (pa_cons (pe_lc (own := [("side", 3)]) rfl sc_solution.nd (pi_seqK (K := K) rfl (pv 1)) (blkOk_by (N := ["numbers", "right", "rows", "side", "row"]) (sc := defScope s_solution) (by decide +kernel)) (fun _ _ _ _ _ => (pg_name (i := 3) sc_solution.nd rfl (by first | exact Or.inl rfl | exact Or.inr rfl))) (fun _ _ _ _ _ => pts_nil) (fun _ _ _ _ _ => (pe_tup (pa_cons (pv 3) pa_nil)))) pa_nil))))
    (pss_one (ps_ret (pe_ifExp (pt_cmpR op_isN (pv 2) pe_non (nomark _)) pe_non (pe_callTy (call_tuple_ofK (K := K) rfl) (by rfl) T.n_tuple (by decide +kernel) (pa_cons (pe_lc (own := [("row", 4)]) rfl sc_solution.nd (pi_seqK (K := K) rfl (pv 2)) (blkOk_by (N := ["numbers", "right", "rows", "side", "row"]) (sc := defScope s_solution) (by decide +kernel)) (fun _ _ _ _ _ => (pg_name (i := 4) sc_solution.nd rfl (by first | exact Or.inl rfl | exact Or.inr rfl))) (fun _ _ _ _ _ => pts_nil) (fun _ _ _ _ _ => (pe_ix (ix_seqK (K := K) rfl) (pv 4) pe_int (fun _ _ => rfl)))) pa_nil)))))))), ?_⟩
  try dsimp only [cxOf, Cx.blk, Cx.nox, Cx.wish]
  (refine body_of h fun W ds P eK f => ?_); subst eK
  obtain ⟨n, R, t, rfl, hR, lt, ht, n1, n5, hN, hP⟩ := f
  walk_at "pd"
  have lR := hR.1.1
  refine ⟨n, R, rfl, hR.1, n1, by omega, fun r hr p hp => (hR.2 r hr p hp).1, ?_⟩
  walk_at "pd"
  have ll : ((t.map fr).length : Int) = ((R.map rowD).length : Int) := by rw [List.length_map, List.length_map, lR, lt]
  refine ⟨fun _ => ?_, fun e => by rw [decide_eq_true ll] at e; cases e⟩
  walk_at "pd"
  refine ev_lcL (it_seqT (ev_var rfl ⟨t.map fr, rfl, by rw [List.length_map]; omega, (t.map fun _ => true).map D.bl, by rw [List.length_map, List.length_map, List.length_map], fun j d y hd hy => ?_, ?_⟩))
  · rw [List.getElem?_map] at hd hy
    rw [List.getElem?_map] at hy
    cases hp : t[j]? with
    | none => rw [hp] at hd; cases hd
    | some p =>
      rw [hp] at hd hy
      cases hd
      cases hy
      refine ⟨[3], by simp, gd_name ?_⟩
      walk_at "pd"
      have ep := (ht p (List.mem_of_getElem? hp)).1
      refine ⟨fr p, rfl, jd_fr _ p, ?_⟩
      rw [isFr_fr ep]
  · walk_at "pd"
    refine rc_all ?_
    rw [all_true]
    walk_at "pd"
    refine ev_lcL (it_seqT (ev_var rfl ⟨t.map fr, rfl, by rw [List.length_map]; omega, (t.map fun p => [p]).map rowD, by rw [List.length_map, List.length_map, List.length_map], fun j d y hd hy => ?_, ?_⟩))
    · rw [List.getElem?_map] at hd hy
      rw [List.getElem?_map] at hy
      cases hp : t[j]? with
      | none => rw [hp] at hd; cases hd
      | some p =>
        rw [hp] at hd hy
        cases hd
        cases hy
        refine ⟨[3], by simp, gd_name ?_⟩
        walk_at "pd"
        rfl
    · walk_at "pd"
      refine ⟨n, 1, R, t.map fun p => [p], rfl, ⟨hR, by rw [List.length_map, lt], fun s hs => ?_⟩, n1, n5, by decide, by decide, fun z => ?_, fun res hd hs => ?_⟩
      · obtain ⟨p, hp, rfl⟩ := List.mem_map.mp hs
        exact ⟨rfl, fun q hq => by rw [List.mem_singleton.mp hq]; exact ht p hp⟩
      · walk_at "pd"
        exact hN z
      · walk_at "pd"
        have lr := hs.l
        refine ev_lcL (it_seqT (ev_var rfl ⟨res.map rowD, rfl, by rw [List.length_map]; omega, (res.map fun r => r.getD 0 (0, 1)).map fr, by rw [List.length_map, List.length_map, List.length_map], fun j d y hd hy => ?_, ?_⟩))
        · rw [List.getElem?_map] at hd hy
          rw [List.getElem?_map] at hy
          cases hp : res[j]? with
          | none => rw [hp] at hd; cases hd
          | some r =>
            rw [hp] at hd hy
            cases hd
            cases hy
            have l1 := (hs.r r (List.mem_of_getElem? hp)).1
            refine ⟨[4], by simp, gd_name ?_⟩
            walk_at "pd"
            have ek : r[0]? = some (r.getD 0 (0, 1)) := by
              rw [List.getD_eq_getElem?_getD, List.getElem?_eq_getElem (by omega)]
              rfl
            refine rd_ixT (j := 0) rfl (by rw [List.getElem?_map, ek]; rfl) rfl
        · walk_at "pd"
          exact hP res hd hs
/-! ### whole_determinant -/
def F_whole_determinant : FD := fun ds P => ∃ (rows : List (List Int)) (n : Nat), ds = [.lst (rows.map intsD)] ∧ SqR n rows ∧ 1 ≤ n ∧ n ≤ 10 ∧ (∀ r ∈ rows, ∀ x ∈ r, x.natAbs < 2 ^ 14) ∧ ∀ t : Int, (t : Rat) = De (rows.map fnR) (List.range n) → P (.int t)
theorem len_whole_determinant : ∀ ds P, F_whole_determinant ds P → ds.length = 1 := by (intro ds P h; first | exact h | (obtain ⟨_, rfl, _⟩ := h; rfl) | (obtain ⟨_, _, rfl, _⟩ := h; rfl) | (obtain ⟨_, _, _, rfl, _⟩ := h; rfl) | (obtain ⟨_, _, _, _, rfl, _⟩ := h; rfl) | (obtain ⟨_, _, _, _, _, rfl, _⟩ := h; rfl) | (obtain ⟨_, _, _, _, _, _, rfl, _⟩ := h; rfl) | (obtain ⟨_, _, _, _, _, _, _, rfl, _⟩ := h; rfl) | (obtain ⟨_, _, _, _, _, _, _, _, rfl, _⟩ := h; rfl) | (obtain ⟨rfl, _⟩ := h; rfl))
theorem ok_whole_determinant (T : Txt K mg) : FnOk Pg w K mg base CX0 1 T.D_whole_determinant.f T.D_whole_determinant.d ["rows"] ((spD K F_whole_determinant)) := by
  refine T.D_whole_determinant.F.ok (k := 0) sc_whole_determinant (spD_len (len_whole_determinant)) (fun cdv A outer s H vs Q E hr h => ?_)
  refine ⟨_, (pss_cons (ps_set (i := 1) sc_whole_determinant.nd rfl (by first | exact Or.inl rfl | exact Or.inr rfl) pe_int)
    (pss_cons (ps_set (i := 2) sc_whole_determinant.nd rfl (by first | exact Or.inl rfl | exact Or.inr rfl) pe_int)
    (pss_cons (ps_set (i := 3) sc_whole_determinant.nd rfl (by first | exact Or.inl rfl | exact Or.inr rfl) (pv 0))
    (pss_cons (ps_while PassesOwn.never (pt_cmpR op_gt (pe_callB (call_lenK (K := K) rfl) (by rfl) T.n_len (by decide +kernel) (pa_cons (pv 3) pa_nil)) pe_int (nomark _)) (pss_cons (ps_setLc (i := 4) (own := [("i", 8), ("row", 7)]) rfl sc_whole_determinant.nd rfl rfl (sw_true rfl rfl rfl (by decide +kernel)) (pi_enumAK (K := K) rfl (by rfl) T.n_enumerate (pa_cons (pv 3) pa_nil)) (blkOk_by (N := ["rows", "sign", "before", "left", "pivots", "pivot", "others", "row", "i", "number", "ahead"]) (sc := defScope s_whole_determinant) (by decide +kernel)) (fun _ _ _ _ _ => (by exact (pg_tupK (K := K) (n := 2) rfl rfl (pgs_cons (pg_name (i := 8) sc_whole_determinant.nd rfl (by first | exact Or.inl rfl | exact Or.inr rfl)) (pgs_cons (pg_name (i := 7) sc_whole_determinant.nd rfl (by first | exact Or.inl rfl | exact Or.inr rfl)) pgs_nil))))) (fun _ _ _ _ _ => (pts_one (pt_cmpR (op_neDK (K := K) rfl (hr_u hr)) (pe_ix (ix_seqK (K := K) rfl) (pv 7) pe_int (fun _ _ => rfl)) pe_int (nomark _)))) (fun _ _ _ _ _ => (pv 8)))
    (pss_cons (ps_if (pt_cmpR (op_eqDK (K := K) rfl (hr_u hr)) (pe_callB (call_lenK (K := K) rfl) (by rfl) T.n_len (by decide +kernel) (pa_cons (pv 4) pa_nil)) pe_int (nomark _))
      (pss_one (ps_ret pe_int))
      pss_nil)
    (pss_cons (ps_set (i := 5) sc_whole_determinant.nd rfl (by first | exact Or.inl rfl | exact Or.inr rfl) (pe_ix (ix_seqK (K := K) rfl) (pv 3) (pe_ix (ix_seqK (K := K) rfl) (pv 4) pe_int (fun _ _ => rfl)) (fun _ _ => rfl)))
    (pss_cons (ps_if (pt_cmpR (op_eqDK (K := K) rfl (hr_u hr)) (pe_op op_mod (pe_ix (ix_seqK (K := K) rfl) (pv 4) pe_int (fun _ _ => rfl)) pe_int) pe_int (nomark _))
      (pss_one (ps_set (i := 1) sc_whole_determinant.nd rfl (by first | exact Or.inl rfl | exact Or.inr rfl) (pe_un un_neg (pv 1))))
      pss_nil)
    (pss_cons (ps_set (i := 6) sc_whole_determinant.nd rfl (by first | exact Or.inl rfl | exact Or.inr rfl) (pe_op (op_plusK (K := K) rfl) (pe_slice (sl_listK (K := K) rfl) (pv 3) po_none (po_some (pe_ix (ix_seqK (K := K) rfl) (pv 4) pe_int (fun _ _ => rfl)))) (pe_slice (sl_listK (K := K) rfl) (pv 3) (po_some (pe_op (op_plusK (K := K) rfl) (pe_ix (ix_seqK (K := K) rfl) (pv 4) pe_int (fun _ _ => rfl)) pe_int)) po_none)))
    (pss_cons (ps_setLc (i := 3) (own := [("row", 7)]) rfl sc_whole_determinant.nd rfl rfl (sw_true rfl rfl rfl (by decide +kernel)) (pi_seqK (K := K) rfl (pv 6)) (blkOk_by (N := ["rows", "sign", "before", "left", "pivots", "pivot", "others", "row", "i", "number", "ahead"]) (sc := defScope s_whole_determinant) (by decide +kernel)) (fun _ _ _ _ _ => (pg_name (i := 7) sc_whole_determinant.nd rfl (by first | exact Or.inl rfl | exact Or.inr rfl))) (fun _ _ _ _ _ => pts_nil) (fun _ _ _ _ _ => (pe_lc (own := [("number", 9), ("ahead", 10)]) rfl sc_whole_determinant.nd (pi_zipAK (K := K) rfl (by rfl) T.n_zip (pa_cons (pe_slice (sl_listK (K := K) rfl) (pv 7) (po_some pe_int) po_none) (pa_cons (pe_slice (sl_listK (K := K) rfl) (pv 5) (po_some pe_int) po_none) pa_nil))) (by exact blkOk_by (N := ["rows", "sign", "before", "left", "pivots", "pivot", "others", "row", "i", "number", "ahead"]) (by kernel_rfl)) (fun _ _ _ _ _ => (by exact (pg_tupK (K := K) (n := 2) rfl rfl (pgs_cons (pg_name (i := 9) sc_whole_determinant.nd rfl (by first | exact Or.inl rfl | exact Or.inr rfl)) (pgs_cons (pg_name (i := 10) sc_whole_determinant.nd rfl (by first | exact Or.inl rfl | exact Or.inr rfl)) pgs_nil))))) (fun _ _ _ _ _ => pts_nil) (fun _ _ _ _ _ => (pe_op op_fdivS (pe_op op_sub (pe_op op_mulW (pe_ix (ix_seqK (K := K) rfl) (pv 5) pe_int (fun _ _ => rfl)) (pv 9)) (pe_op op_mulW (pe_ix (ix_seqK (K := K) rfl) (pv 7) pe_int (fun _ _ => rfl)) (pv 10))) (pv 2))))))
    (pss_one (ps_set (i := 2) sc_whole_determinant.nd rfl (by first | exact Or.inl rfl | exact Or.inr rfl) (pe_ix (ix_seqK (K := K) rfl) (pv 5) pe_int (fun _ _ => rfl)))))))))))
    (pss_one (ps_ret (pe_op op_mulW (pv 1) (pv 2)))))))), ?_⟩
  try dsimp only [cxOf, Cx.blk, Cx.nox, Cx.wish]
  (refine body_of h fun W ds P eK f => ?_); subst eK
  obtain ⟨rows, n, rfl, hsq, n1, n10, hsm, hP⟩ := f
  obtain ⟨t, ht, hBI⟩ := BI.start hsq n1
  have hP := hP t ht
  walk_at "pd"
  refine sd_while (fun δ => ∃ (m : Nat) (left : List (List Int)) (b s : Int) (x4 x5 x6 x7 x8 x9 x10 : Option D), δ = [some (.lst (rows.map intsD)), some (.int s), some (.int b), some (.lst (left.map intsD)), x4, x5, x6, x7, x8, x9, x10] ∧ BI t m left b s ∧ m ≤ n ∧ SmR (szB m) left ∧ b.natAbs < 2 ^ 7680 ∧ s.natAbs ≤ 1)
    (fun δ => match δ with | _ :: _ :: _ :: some (.lst l) :: _ => l.length | _ => 0) ⟨n, rows, 1, 1, none, none, none, none, none, none, none, rfl, hBI, Nat.le_refl n, fun r hr x hx => Nat.lt_of_lt_of_le (hsm r hr x hx) (Nat.pow_le_pow_right (by decide) (by have := szB_pos n; omega)), Nat.one_lt_two_pow (by decide), by decide⟩ ?_
  rintro δ ⟨m, left, b, s, x4, x5, x6, x7, x8, x9, x10, rfl, bi, hm, hs, hb, s1⟩
  have ll := bi.sq.1
  walk_at "pd"
  refine ⟨fun hb1 => ?_, fun hb1 => ?_⟩
  · have hb1 := of_decide_eq_true hb1
    rw [List.length_map] at hb1
    obtain ⟨m, rfl⟩ : ∃ k, m = k + 1 := ⟨m - 1, by omega⟩
    walk_at "pd"
    refine ev_lc (it_enumAL ?_)
    walk_at "pd"
    refine ⟨_, rfl, by rw [enumD_length, List.length_map]; omega, fun k acc => acc = (pivL left k).map fun i : Nat => D.int i, rfl, fun k d acc hd ha => ?_, fun acc ha => ?_⟩
    · have ha : acc = (pivL left k).map fun i : Nat => D.int i := ha
      subst ha
      obtain ⟨x, hx, rfl⟩ := enumD_get hd
      rw [List.getElem?_map] at hx
      cases hr : left[k]? with
      | none => rw [hr] at hx; cases hx
      | some r =>
        rw [hr] at hx
        cases hx
        have lr := bi.sq.2 r (List.mem_of_getElem? hr)
        refine ⟨[8] ++ [7], by simp, gd_tup2 (gd_name (gd_name ?_))⟩
        walk_at "pd"
        refine rd_ixL (j := 0) rfl (getD_nat (by omega)) ?_
        walk_at "pd"
        refine ⟨fun q => ?_, fun q => ?_⟩
        · walk_at "pd"
          show _ = (pivL left (k + 1)).map _
          rw [pivL_snoc hr, if_pos q, List.map_append]
          rfl
        · show _ = (pivL left (k + 1)).map _
          rw [pivL_snoc hr, if_neg (by rw [q]; decide), List.append_nil]
    · have ha : acc = (pivL left (enumD (left.map intsD)).length).map fun i : Nat => D.int i := ha
      rw [enumD_length, List.length_map] at ha
      subst ha
      walk_at "pd"
      cases hpv : pivL left left.length with
      | nil =>
        have t0 := bi.none (pivL_nil hpv)
        subst t0
        refine bt rfl ?_
        walk_at "pd"
        exact hP
      | cons i0 rest =>
        obtain ⟨p, hp, hp0⟩ := pivL_head hpv
        have hil := (List.getElem?_eq_some_iff.mp hp).1
        have hpm := List.mem_of_getElem? hp
        have lp := bi.sq.2 p hpm
        refine bf (by rw [List.length_map]; exact decide_eq_false (by simp; omega)) ?_
        walk_at "pd"
        refine rd_ixL (j := i0) rfl (by rw [List.getElem?_map, hp]; rfl) ?_
        have split : left = left.take i0 ++ p :: left.drop (i0 + 1) := by
          have h1 := List.getElem_cons_drop hil
          have h2 := List.take_append_drop i0 left
          have h3 : left[i0] = p := (List.getElem?_eq_some_iff.mp hp).2
          rw [h3] at h1
          rw [h1, h2]
        have bi2 := bi
        rw [split] at bi2
        have st := bi2.step hp0
        have ltake : (left.take i0).length = i0 := by rw [List.length_take]; omega
        rw [ltake] at st
        refine sd_cut (fun δ => ∃ s2 : Int, s2 = (if i0 % 2 = 1 then -s else s) ∧ δ = [some (.lst (rows.map intsD)), some (.int s2), some (.int b), some (.lst (left.map intsD)), some (.lst ((i0 :: rest).map fun i : Nat => D.int i)), some (intsD p), x6, x7, x8, x9, x10]) ?_ fun δ' hδ => ?_
        · refine sd_if ?_
          walk_at "pd"
          · decide
          have eq : decide ((i0 : Int) % 2 = 1) = decide (i0 % 2 = 1) := decide_eq_decide.mpr (by omega)
          rw [eq]
          refine ⟨fun q => ?_, fun q => ?_⟩
          · walk_at "pd"
            exact ⟨-s, by rw [if_pos (of_decide_eq_true q)], rfl⟩
          · walk_at "pd"
            exact ⟨s, by rw [if_neg (of_decide_eq_false q)], rfl⟩
        · obtain ⟨s2, es, rfl⟩ := hδ
          rw [← es] at st
          walk_at "pd"
          refine ⟨_, rfl, ?_⟩
          walk_at "pd"
          refine ⟨_, rfl, ?_⟩
          walk_at "pd"
          refine ⟨_, rfl, ?_⟩
          walk_at "pd"
          refine ⟨_, rfl, ?_⟩
          walk_at "pd"
          have cut1 : cutD (left.map intsD) none (some (i0 : Int)) = (left.take i0).map intsD := by rw [cutD_lo, List.map_take]
          have cut2 : cutD (left.map intsD) (some ((i0 : Int) + 1)) none = (left.drop (i0 + 1)).map intsD := by
            have := cutD_hi (left.map intsD) (i0 + 1)
            rw [List.map_drop]
            exact this
          rw [cut1, cut2]
          refine rd_plusL (by rw [List.length_map, List.length_map, List.length_take, List.length_drop]; omega) ?_
          rw [← List.map_append]
          have lo : (left.take i0 ++ left.drop (i0 + 1)).length = m := by
            rw [List.length_append, List.length_take, List.length_drop]
            omega
          have om : ∀ r ∈ left.take i0 ++ left.drop (i0 + 1), r ∈ left := fun r hr => by
            rcases List.mem_append.mp hr with hr | hr
            · exact List.mem_of_mem_take hr
            · exact List.mem_of_mem_drop hr
          generalize left.take i0 ++ left.drop (i0 + 1) = others at st lo om
          have sp : 15 ≤ szB (m + 1) := szB_pos _
          have sn := szB_step (m := m) (by omega)
          have sm2 : SmR (szB m) (others.map (bstep b p)) := fun r' hr' x hx => by
            obtain ⟨r, hr, rfl⟩ := List.mem_map.mp hr'
            obtain ⟨j, hj⟩ := List.mem_iff_getElem?.mp hx
            have hjl := (List.getElem?_eq_some_iff.mp hj).1
            have lr := bi.sq.2 r (om r hr)
            rw [bstep_len lp lr] at hjl
            have e : x = (bstep b p r).getD j 0 := by rw [List.getD_eq_getElem?_getD, hj]; rfl
            rw [e, bstep_at lp lr hjl]
            obtain ⟨z, hz⟩ := bstep_exact bi.nz bi.dv hpm (om r hr) hjl
            refine fdiv_small bi.nz hz ?_
            rw [sn]
            exact num_small (by omega) (getD_small (hs p hpm) _) (getD_small (hs r (om r hr)) _) (getD_small (hs r (om r hr)) _) (getD_small (hs p hpm) _)
          walk_at "pd"
          refine ev_lcL (it_seqL (ev_var rfl ⟨others.map intsD, rfl, by rw [List.length_map]; omega, (others.map (bstep b p)).map intsD, by rw [List.length_map, List.length_map, List.length_map], fun k d y hd hy => ?_, ?_⟩))
          · rw [List.getElem?_map] at hd
            rw [List.getElem?_map, List.getElem?_map] at hy
            cases hr : others[k]? with
            | none => rw [hr] at hd; cases hd
            | some r =>
              rw [hr] at hd hy
              cases hd
              cases hy
              have hrm := om r (List.mem_of_getElem? hr)
              have lr := bi.sq.2 r hrm
              refine ⟨[7], by simp, gd_name ?_⟩
              walk_at "pd"
              refine ev_lcL (it_zipL ?_)
              walk_at "pd"
              refine ⟨_, rfl, ?_⟩
              walk_at "pd"
              refine ⟨_, rfl, ?_⟩
              walk_at "pd"
              refine ⟨_, rfl, ?_⟩
              walk_at "pd"
              refine ⟨_, rfl, ?_⟩
              walk_at "pd"
              have c1 : ∀ l : List Int, cutD (l.map D.int) (some 1) none = l.tail.map D.int := fun l => by
                have := cutD_hi (l.map D.int) 1
                rw [List.drop_one, ← List.map_tail] at this
                exact this
              rw [c1, c1]
              refine ⟨_, _, rfl, ?_⟩
              have lz : (zipD (r.tail.map D.int) (p.tail.map D.int)).length = m := by
                rw [zipD_len2, List.length_map, List.length_map, List.length_tail, List.length_tail]
                omega
              refine ⟨by omega, (bstep b p r).map D.int, by rw [List.length_map, lz, bstep_len lp lr], fun j d y hd hy => ?_, ?_⟩
              · obtain ⟨u, v, hu, hv, rfl⟩ := zipD_get hd
                have hj : j < m := by
                  have := (List.getElem?_eq_some_iff.mp hd).1
                  omega
                have eu : u = .int (r.getD (j + 1) 0) := by
                  rw [List.getElem?_map, List.getElem?_tail, List.getElem?_eq_getElem (by omega)] at hu
                  rw [List.getD_eq_getElem?_getD, List.getElem?_eq_getElem (by omega)]
                  exact (Option.some.inj hu).symm
                have ev : v = .int (p.getD (j + 1) 0) := by
                  rw [List.getElem?_map, List.getElem?_tail, List.getElem?_eq_getElem (by omega)] at hv
                  rw [List.getD_eq_getElem?_getD, List.getElem?_eq_getElem (by omega)]
                  exact (Option.some.inj hv).symm
                have ey : y = .int ((p.getD 0 0 * r.getD (j + 1) 0 - r.getD 0 0 * p.getD (j + 1) 0).fdiv b) := by
                  rw [getD_nat (by rw [bstep_len lp lr]; exact hj), bstep_at lp lr hj] at hy
                  exact (Option.some.inj hy).symm
                subst eu
                subst ev
                subst ey
                refine ⟨[9] ++ [10], by simp, gd_tup2 (gd_name (gd_name ?_))⟩
                have tb := szB_top (m + 1) (by omega)
                walk_at "pd"
                refine rd_ixL (j := 0) rfl (getD_nat (by omega)) ?_
                walk_at "pd"
                · exact mul_okN (getD_small (hs p hpm) _) (getD_small (hs r hrm) _) (by omega)
                refine rd_ixL (j := 0) rfl (getD_nat (by omega)) ?_
                walk_at "pd"
                · exact mul_okN (getD_small (hs r hrm) _) (getD_small (hs p hpm) _) (by omega)
                · exact divS_ok bi.nz (lt_pow hb (by decide))
                · rfl
              · rfl
          · walk_at "pd"
            refine rd_ixL (j := 0) rfl (getD_nat (by omega)) ?_
            walk_at "pd"
            refine ⟨⟨m, others.map (bstep b p), p.getD 0 0, s2, _, _, _, _, _, _, _, rfl, st, by omega, sm2, ?_, ?_⟩, ?_⟩
            · exact lt_pow (getD_small (hs p hpm) 0) (by have := szB_top (m + 1) (by omega); omega)
            · rw [es]
              split <;> omega
            · show (List.map intsD (List.map (bstep b p) others)).length < (List.map intsD left).length
              rw [List.length_map, List.length_map, List.length_map]
              omega
  · have hb1 := of_decide_eq_false hb1
    rw [List.length_map] at hb1
    have m0 : m = 0 := by omega
    subst m0
    rcases bi.v with ⟨_, e⟩ | ⟨z, _⟩
    · walk_at "pd"
      · exact mul_okN (m := 1) (n := 7680) (by omega) hb (by decide)
      · rw [← e]
        exact hP
    · omega
/-! ### determinant -/
def F_determinant (K : PySem.W.Frag) : FD := fun ds P => ∃ (n : Nat) (R : List (List Fr)), ds = [sqD R] ∧ SqB n R ∧ 1 ≤ n ∧ n ≤ 10 ∧ ∀ q, IsF q → toQ q = detQ n R → P (fr q)
theorem len_determinant (K : PySem.W.Frag) : ∀ ds P, (F_determinant K) ds P → ds.length = 1 := by (intro ds P h; first | exact h | (obtain ⟨_, rfl, _⟩ := h; rfl) | (obtain ⟨_, _, rfl, _⟩ := h; rfl) | (obtain ⟨_, _, _, rfl, _⟩ := h; rfl) | (obtain ⟨_, _, _, _, rfl, _⟩ := h; rfl) | (obtain ⟨_, _, _, _, _, rfl, _⟩ := h; rfl) | (obtain ⟨_, _, _, _, _, _, rfl, _⟩ := h; rfl) | (obtain ⟨_, _, _, _, _, _, _, rfl, _⟩ := h; rfl) | (obtain ⟨_, _, _, _, _, _, _, _, rfl, _⟩ := h; rfl) | (obtain ⟨rfl, _⟩ := h; rfl))
theorem ok_determinant (T : Txt K mg) : FnOk Pg w K mg base CX0 5 T.D_determinant.f T.D_determinant.d ["numbers"] ((spD K (F_determinant K))) := by
  have G_as_wholes := ok_as_wholes (Pg := Pg) (w := w) (base := base) T
  have G_check_square_numbers := ok_check_square_numbers (Pg := Pg) (w := w) (base := base) T
  have G_lowest := ok_lowest (Pg := Pg) (w := w) (base := base) T
  have G_whole_determinant := ok_whole_determinant (Pg := Pg) (w := w) (base := base) T
  refine T.D_determinant.F.ok (k := 4) sc_determinant (spD_len (len_determinant K)) (fun cdv A outer s H vs Q E hr h => ?_)
  refine ⟨_, (pss_cons (ps_expr (pe_call G_check_square_numbers (hr.mono (by decide)) (by rfl) T.D_check_square_numbers.g T.D_check_square_numbers.F.kp T.D_check_square_numbers.b .nil pass0 (pa_cons (pv 0) pa_nil)))
    (pss_cons (ps_set (i := 1) sc_determinant.nd rfl (by first | exact Or.inl rfl | exact Or.inr rfl) (pe_lst pa_nil))
    (pss_cons (ps_set (i := 2) sc_determinant.nd rfl (by first | exact Or.inl rfl | exact Or.inr rfl) pe_int)
    (pss_cons (ps_for PassesOwn.never rfl (pi_seqK (K := K) rfl (pv 0)) (pg_name (i := 3) sc_determinant.nd rfl (by first | exact Or.inl rfl | exact Or.inr rfl))
      (pss_cons (ps_asg (pe_call G_as_wholes (hr.mono (by decide)) (by rfl) T.D_as_wholes.g T.D_as_wholes.F.kp T.D_as_wholes.b .nil pass0 (pa_cons (pv 3) pa_nil)) (by exact (pg_tupK (K := K) (n := 2) rfl rfl (pgs_cons (pg_name (i := 4) sc_determinant.nd rfl (by first | exact Or.inl rfl | exact Or.inr rfl)) (pgs_cons (pg_name (i := 5) sc_determinant.nd rfl (by first | exact Or.inl rfl | exact Or.inr rfl)) pgs_nil)))))
    (pss_cons (ps_expr (pe_bm PySem.F.plainAttrs_list PySem.F.slot_list_append PySem.F.type_list_append mt_append (pv 1) (pa_cons (pv 4) pa_nil)))
    (pss_one (ps_set (i := 2) sc_determinant.nd rfl (by first | exact Or.inl rfl | exact Or.inr rfl) (pe_op op_mulW (pv 2) (pv 5)))))))
    (pss_one (ps_ret (pe_call G_lowest (hr.mono (by decide)) (by rfl) T.D_lowest.g T.D_lowest.F.kp T.D_lowest.b .nil pass0 (pa_cons (pe_call G_whole_determinant (hr.mono (by decide)) (by rfl) T.D_whole_determinant.g T.D_whole_determinant.F.kp T.D_whole_determinant.b .nil pass0 (pa_cons (pv 1) pa_nil)) (pa_cons (pv 2) pa_nil))))))))), ?_⟩
  try dsimp only [cxOf, Cx.blk, Cx.nox, Cx.wish]
  refine body_ofO h fun W ds P eK f => ?_
  subst eK
  obtain ⟨n, R, rfl, hR, n1, n10, hP⟩ := f
  have lR := hR.1.1
  refine so_seq (so_lift ?_)
  walk_at "pd"
  refine ⟨n, R, rfl, hR.1, n1, n10, fun r hr p hp => (hR.2 r hr p hp).1, ?_⟩
  refine so_seq (so_new ?_)
  walk_at "pd"
  refine fun p _ => ?_
  refine so_seq (so_asg ?_)
  walk_at "pd"
  refine so_seq (so_for (it_seqT ?_))
  walk_at "pd"
  refine ⟨_, rfl, fun i ω δ => ∃ (b : Int) (x3 x4 x5 : Option D), Has ω p (((R.take i).map wholeR).map intsD) ∧ b = belL (R.take i) ∧ 1 ≤ b ∧ b.natAbs < 2 ^ (1 + 5 * i) ∧ δ = [some (sqD R), some (.obj p), some (.int b), x3, x4, x5], ⟨1, none, none, none, Has.new (fun x hx => by cases hx), rfl, by decide, by decide, rfl⟩, fun i d ω δ hd hI => ?_, fun ω δ hI => ?_⟩
  · obtain ⟨b, x3, x4, x5, hp, eb, b1, b2, rfl⟩ := hI
    rw [List.getElem?_map] at hd
    cases hr : R[i]? with
    | none => rw [hr] at hd; cases hd
    | some r =>
      rw [hr] at hd
      cases hd
      have hm := List.mem_of_getElem? hr
      have il := (List.getElem?_eq_some_iff.mp hr).1
      have lr := hR.1.2 r hm
      obtain ⟨k1, k2, _⟩ := lcmL_ok (hR.2 r hm)
      have k3 : lcmL r ≤ 24 := Int.le_of_dvd (by decide) k2
      have k5 : (lcmL r).natAbs < 2 ^ 5 := by
        have : (2 : Nat) ^ 5 = 32 := by decide
        omega
      refine ⟨_, gd_name ?_⟩
      refine so_seq (so_lift (sd_asgG (js := [4] ++ [5]) ?_))
      walk_at "pd"
      refine ⟨r, rfl, by omega, hR.2 r hm, ?_⟩
      refine gd_tup2 (gd_name (gd_name ?_))
      refine so_seq (so_app (i := 1) rfl hp.1 (fun es m => by rw [hp.2 es m, List.length_map, List.length_map, List.length_take]; omega) ?_)
      walk_at "pd"
      refine ⟨_, rfl, ?_⟩
      refine so_asg ?_
      walk_at "pd"
      · exact mul_okN b2 k5 (by omega)
      refine ⟨b * lcmL r, _, _, _, ?_, ?_, ?_, ?_, rfl⟩
      · have := hp.put (f := fun es => es ++ [intsD (wholeR r)])
        rw [← take_snoc hr, List.map_append, List.map_append]
        exact this
      · rw [eb]
        unfold belL
        rw [← take_snoc hr, List.foldl_append]
        rfl
      · have := Int.mul_le_mul b1 k1 (by decide) (by omega)
        omega
      · have := mul_lt b2 k5
        rw [show 1 + 5 * (i + 1) = 1 + 5 * i + 5 by omega]
        exact this
  · obtain ⟨b, x3, x4, x5, hp, eb, b1, b2, rfl⟩ := hI
    rw [List.length_map, List.take_length] at hp eb
    rw [List.length_map, lR] at b2
    subst eb
    refine so_retL (evl_put (a := p) 1 rfl hp.1 (evl_ev ?_))
    walk_at "pd"
    refine ⟨R.map wholeR, n, rfl, ⟨by rw [List.length_map, lR], fun r hr => ?_⟩, n1, n10, fun r hr x hx => ?_, fun t ht => ?_⟩
    · obtain ⟨r', hr', rfl⟩ := List.mem_map.mp hr
      unfold wholeR
      rw [List.length_map]
      exact hR.1.2 r' hr'
    · obtain ⟨r', hr', rfl⟩ := List.mem_map.mp hr
      exact whole_small (hR.2 r' hr') x hx
    · walk_at "pd"
      obtain ⟨q1, q2⟩ := whole_det hR ht b1
      exact ⟨_, _, rfl, by omega, lt_pow b2 (by omega), nref_fr _, hP _ q1 q2⟩
/-! ### _law_plus -/
def F__law_plus : FD := fun ds P => ∃ (p q : Fr) (m n : Nat), ds = [fr p, fr q] ∧ 0 < p.2 ∧ 0 < q.2 ∧ Sz m p ∧ Sz n q ∧ m + n ≤ 8000 ∧ P (fr (addF p q))
theorem len__law_plus : ∀ ds P, F__law_plus ds P → ds.length = 2 := by (intro ds P h; first | exact h | (obtain ⟨_, rfl, _⟩ := h; rfl) | (obtain ⟨_, _, rfl, _⟩ := h; rfl) | (obtain ⟨_, _, _, rfl, _⟩ := h; rfl) | (obtain ⟨_, _, _, _, rfl, _⟩ := h; rfl) | (obtain ⟨_, _, _, _, _, rfl, _⟩ := h; rfl) | (obtain ⟨_, _, _, _, _, _, rfl, _⟩ := h; rfl) | (obtain ⟨_, _, _, _, _, _, _, rfl, _⟩ := h; rfl) | (obtain ⟨_, _, _, _, _, _, _, _, rfl, _⟩ := h; rfl) | (obtain ⟨rfl, _⟩ := h; rfl))
theorem ok__law_plus (T : Txt K mg) : FnOk Pg w K mg base CX0 2 T.D__law_plus.f T.D__law_plus.d ["one", "other"] ((spD K F__law_plus)) := by
  have G__law_lowest := ok__law_lowest (Pg := Pg) (w := w) (base := base) T
  refine T.D__law_plus.F.ok (k := 1) sc__law_plus (spD_len (len__law_plus)) (fun cdv A outer s H vs Q E hr h => ?_)
  refine ⟨_, (pss_one (ps_ret (pe_call G__law_lowest (hr.mono (by decide)) (by rfl) T.D__law_lowest.g T.D__law_lowest.F.kp T.D__law_lowest.b .nil pass0 (pa_cons (pe_op (op_plusK (K := K) rfl) (pe_op op_mulW (pe_ix (ix_seqK (K := K) rfl) (pv 0) pe_int (fun _ _ => rfl)) (pe_ix (ix_seqK (K := K) rfl) (pv 1) pe_int (fun _ _ => rfl))) (pe_op op_mulW (pe_ix (ix_seqK (K := K) rfl) (pv 1) pe_int (fun _ _ => rfl)) (pe_ix (ix_seqK (K := K) rfl) (pv 0) pe_int (fun _ _ => rfl)))) (pa_cons (pe_op op_mulW (pe_ix (ix_seqK (K := K) rfl) (pv 0) pe_int (fun _ _ => rfl)) (pe_ix (ix_seqK (K := K) rfl) (pv 1) pe_int (fun _ _ => rfl))) pa_nil))))), ?_⟩
  try dsimp only [cxOf, Cx.blk, Cx.nox, Cx.wish]
  (refine body_of h fun W ds P eK f => ?_); subst eK
  obtain ⟨p, q, m, n, rfl, hp, hq, ⟨s1, s2⟩, ⟨s3, s4⟩, hmn, hP⟩ := f
  walk_at "pd"
  · exact mul_okN s1 s4 (by omega)
  · exact mul_okN s3 s2 (by omega)
  · exact mul_okN s2 s4 (by omega)
  · exact ⟨_, _, rfl, Int.mul_pos hp hq, lt_pow (mul_lt s2 s4) hmn, hP⟩
/-! ### _law_times -/
def F__law_times : FD := fun ds P => ∃ (p q : Fr) (m n : Nat), ds = [fr p, fr q] ∧ 0 < p.2 ∧ 0 < q.2 ∧ Sz m p ∧ Sz n q ∧ m + n ≤ 8000 ∧ P (fr (mulF p q))
theorem len__law_times : ∀ ds P, F__law_times ds P → ds.length = 2 := by (intro ds P h; first | exact h | (obtain ⟨_, rfl, _⟩ := h; rfl) | (obtain ⟨_, _, rfl, _⟩ := h; rfl) | (obtain ⟨_, _, _, rfl, _⟩ := h; rfl) | (obtain ⟨_, _, _, _, rfl, _⟩ := h; rfl) | (obtain ⟨_, _, _, _, _, rfl, _⟩ := h; rfl) | (obtain ⟨_, _, _, _, _, _, rfl, _⟩ := h; rfl) | (obtain ⟨_, _, _, _, _, _, _, rfl, _⟩ := h; rfl) | (obtain ⟨_, _, _, _, _, _, _, _, rfl, _⟩ := h; rfl) | (obtain ⟨rfl, _⟩ := h; rfl))
theorem ok__law_times (T : Txt K mg) : FnOk Pg w K mg base CX0 2 T.D__law_times.f T.D__law_times.d ["one", "other"] ((spD K F__law_times)) := by
  have G__law_lowest := ok__law_lowest (Pg := Pg) (w := w) (base := base) T
  refine T.D__law_times.F.ok (k := 1) sc__law_times (spD_len (len__law_times)) (fun cdv A outer s H vs Q E hr h => ?_)
  refine ⟨_, (pss_one (ps_ret (pe_call G__law_lowest (hr.mono (by decide)) (by rfl) T.D__law_lowest.g T.D__law_lowest.F.kp T.D__law_lowest.b .nil pass0 (pa_cons (pe_op op_mulW (pe_ix (ix_seqK (K := K) rfl) (pv 0) pe_int (fun _ _ => rfl)) (pe_ix (ix_seqK (K := K) rfl) (pv 1) pe_int (fun _ _ => rfl))) (pa_cons (pe_op op_mulW (pe_ix (ix_seqK (K := K) rfl) (pv 0) pe_int (fun _ _ => rfl)) (pe_ix (ix_seqK (K := K) rfl) (pv 1) pe_int (fun _ _ => rfl))) pa_nil))))), ?_⟩
  try dsimp only [cxOf, Cx.blk, Cx.nox, Cx.wish]
  (refine body_of h fun W ds P eK f => ?_); subst eK
  obtain ⟨p, q, m, n, rfl, hp, hq, ⟨s1, s2⟩, ⟨s3, s4⟩, hmn, hP⟩ := f
  walk_at "pd"
  · exact mul_okN s1 s3 (by omega)
  · exact mul_okN s2 s4 (by omega)
  · exact ⟨_, _, rfl, Int.mul_pos hp hq, lt_pow (mul_lt s2 s4) hmn, hP⟩
/-! ### _law_dot -/
def dotF (u v : List Fr) : Fr := (u.zip v).foldl (fun a x => addF a (mulF x.1 x.2)) (0, 1)
theorem dotF_ok {k l : Nat} : ∀ {u v : List Fr} {a : Fr} {m : Nat}, (∀ p ∈ u, IsF p ∧ Sz k p) → (∀ p ∈ v, IsF p ∧ Sz l p) → IsF a → Sz m a → IsF ((u.zip v).foldl (fun a x => addF a (mulF x.1 x.2)) a) ∧ Sz (m + (k + l + 1) * (u.zip v).length) ((u.zip v).foldl (fun a x => addF a (mulF x.1 x.2)) a)
  | [], v, a, m, _, _, ha, hs => ⟨ha, by
    show Sz (m + (k + l + 1) * 0) a
    exact hs⟩
  | p :: u, [], a, m, _, _, ha, hs => ⟨ha, by
    show Sz (m + (k + l + 1) * 0) a
    exact hs⟩
  | p :: u, q :: v, a, m, hu, hv, ha, hs => by
    obtain ⟨p1, p2⟩ := hu p List.mem_cons_self
    obtain ⟨q1, q2⟩ := hv q List.mem_cons_self
    have i := mulF_isF p1 q1
    have s := mulF_sz p2 q2
    obtain ⟨r1, r2⟩ := dotF_ok (u := u) (v := v) (a := addF a (mulF p q)) (m := m + (k + l) + 1) (fun x hx => hu x (List.mem_cons_of_mem _ hx)) (fun x hx => hv x (List.mem_cons_of_mem _ hx)) (addF_isF ha i) (addF_sz hs s)
    refine ⟨r1, ?_⟩
    have e : m + (k + l + 1) * ((p :: u).zip (q :: v)).length = m + (k + l) + 1 + (k + l + 1) * (u.zip v).length := by
      rw [List.zip_cons_cons, List.length_cons, Nat.mul_succ]
      omega
    rw [e]
    exact r2
theorem dotF_Q : ∀ {u v : List Fr} {a : Fr} {n : Nat}, u.length = n → v.length = n → (∀ p ∈ u, IsF p) → (∀ p ∈ v, IsF p) → IsF a → toQ ((u.zip v).foldl (fun a x => addF a (mulF x.1 x.2)) a) = toQ a + dotQ n (rowQ u) (rowQ v)
  | [], [], a, n, e, _, _, _, _ => by
    subst e
    show toQ a = toQ a + 0
    grind
  | p :: u, q :: v, a, n, e1, e2, hu, hv, ha => by
    obtain ⟨m, rfl⟩ : ∃ m, n = m + 1 := ⟨u.length, by simpa using e1.symm⟩
    have p1 := hu p List.mem_cons_self
    have q1 := hv q List.mem_cons_self
    have i := mulF_isF p1 q1
    show toQ ((u.zip v).foldl (fun a x => addF a (mulF x.1 x.2)) (addF a (mulF p q))) = _
    rw [dotF_Q (n := m) (by simpa using e1) (by simpa using e2) (fun x hx => hu x (List.mem_cons_of_mem _ hx)) (fun x hx => hv x (List.mem_cons_of_mem _ hx)) (addF_isF ha i), toQ_add (by have := ha.1; omega) (by have := i.1; omega), toQ_mul (by have := p1.1; omega) (by have := q1.1; omega)]
    have e3 : m + 1 = 1 + m := by omega
    rw [e3, dotQ_add]
    have e4 : dotQ 1 (rowQ (p :: u)) (rowQ (q :: v)) = toQ p * toQ q := by
      show (0 : Rat) + toQ p * toQ q = _
      grind
    have e5 : dotQ m (fun c => rowQ (p :: u) (1 + c)) (fun c => rowQ (q :: v) (1 + c)) = dotQ m (rowQ u) (rowQ v) := dotQ_congr fun c _ => by
      have x : ∀ (y : Fr) (l : List Fr), rowQ (y :: l) (1 + c) = rowQ l c := fun y l => by
        unfold rowQ
        rw [Nat.add_comm]
        rfl
      rw [x, x]
    rw [e4, e5]
    grind
  | [], _ :: _, _, _, e1, e2, _, _, _ => by simp at e1 e2; omega
  | _ :: _, [], _, _, e1, e2, _, _, _ => by simp at e1 e2; omega
theorem dotF_spec {u v : List Fr} {n k l : Nat} (lu : u.length = n) (lv : v.length = n) (hu : ∀ p ∈ u, IsF p ∧ Sz k p) (hv : ∀ p ∈ v, IsF p ∧ Sz l p) : IsF (dotF u v) ∧ toQ (dotF u v) = dotQ n (rowQ u) (rowQ v) := by
  have i0 : IsF (0, 1) := ⟨by decide, by decide⟩
  have s0 : Sz 1 (0, 1) := ⟨by decide, by decide⟩
  obtain ⟨e1, _⟩ := dotF_ok hu hv i0 s0
  refine ⟨e1, ?_⟩
  unfold dotF
  rw [dotF_Q lu lv (fun p hp => (hu p hp).1) (fun p hp => (hv p hp).1) i0, toQ_int]
  have : ((0 : Int) : Rat) = 0 := rfl
  rw [this]
  grind
def F__law_dot : FD := fun ds P => ∃ (u v : List Fr) (n k l : Nat), ds = [rowD u, rowD v] ∧ u.length = n ∧ v.length = n ∧ n ≤ 5 ∧ (∀ p ∈ u, IsF p ∧ Sz k p) ∧ (∀ p ∈ v, IsF p ∧ Sz l p) ∧ k + l ≤ 1200 ∧ ∀ q, IsF q → toQ q = dotQ n (rowQ u) (rowQ v) → P (fr q)
theorem len__law_dot : ∀ ds P, F__law_dot ds P → ds.length = 2 := by (intro ds P h; first | exact h | (obtain ⟨_, rfl, _⟩ := h; rfl) | (obtain ⟨_, _, rfl, _⟩ := h; rfl) | (obtain ⟨_, _, _, rfl, _⟩ := h; rfl) | (obtain ⟨_, _, _, _, rfl, _⟩ := h; rfl) | (obtain ⟨_, _, _, _, _, rfl, _⟩ := h; rfl) | (obtain ⟨_, _, _, _, _, _, rfl, _⟩ := h; rfl) | (obtain ⟨_, _, _, _, _, _, _, rfl, _⟩ := h; rfl) | (obtain ⟨_, _, _, _, _, _, _, _, rfl, _⟩ := h; rfl) | (obtain ⟨rfl, _⟩ := h; rfl))
theorem ok__law_dot (T : Txt K mg) : FnOk Pg w K mg base CX0 3 T.D__law_dot.f T.D__law_dot.d ["one", "other"] ((spD K F__law_dot)) := by
  have G__law_plus := ok__law_plus (Pg := Pg) (w := w) (base := base) T
  have G__law_times := ok__law_times (Pg := Pg) (w := w) (base := base) T
  refine T.D__law_dot.F.ok (k := 2) sc__law_dot (spD_len (len__law_dot)) (fun cdv A outer s H vs Q E hr h => ?_)
  refine ⟨_, (pss_cons (ps_set (i := 2) sc__law_dot.nd rfl (by first | exact Or.inl rfl | exact Or.inr rfl) (pe_tup (pa_cons pe_int (pa_cons pe_int pa_nil))))
    (pss_cons (ps_for PassesOwn.never rfl (pi_zipAK (K := K) rfl (by rfl) T.n_zip (pa_cons (pv 0) (pa_cons (pv 1) pa_nil))) (by exact (pg_tupK (K := K) (n := 2) rfl rfl (pgs_cons (pg_name (i := 3) sc__law_dot.nd rfl (by first | exact Or.inl rfl | exact Or.inr rfl)) (pgs_cons (pg_name (i := 4) sc__law_dot.nd rfl (by first | exact Or.inl rfl | exact Or.inr rfl)) pgs_nil))))
      (pss_one (ps_set (i := 2) sc__law_dot.nd rfl (by first | exact Or.inl rfl | exact Or.inr rfl) (pe_call G__law_plus (hr.mono (by decide)) (by rfl) T.D__law_plus.g T.D__law_plus.F.kp T.D__law_plus.b .nil pass0 (pa_cons (pv 2) (pa_cons (pe_call G__law_times (hr.mono (by decide)) (by rfl) T.D__law_times.g T.D__law_times.F.kp T.D__law_times.b .nil pass0 (pa_cons (pv 3) (pa_cons (pv 4) pa_nil))) pa_nil))))))
    (pss_one (ps_ret (pv 2))))), ?_⟩
  try dsimp only [cxOf, Cx.blk, Cx.nox, Cx.wish]
  (refine body_of h fun W ds P eK f => ?_); subst eK
  obtain ⟨u, v, n, k, l, rfl, lu, lv, n5, hu, hv, hkl, hP⟩ := f
  have i0 : IsF (0, 1) := ⟨by decide, by decide⟩
  have s0 : Sz 1 (0, 1) := ⟨by decide, by decide⟩
  obtain ⟨e1, _⟩ := dotF_ok hu hv i0 s0
  have e2 := dotF_Q lu lv (fun p hp => (hu p hp).1) (fun p hp => (hv p hp).1) i0
  have hP : P (fr (dotF u v)) := hP _ e1 (by
    unfold dotF
    rw [e2, toQ_int]
    have : ((0 : Int) : Rat) = 0 := rfl
    rw [this]
    grind)
  walk_at "pd"
  refine sd_for (it_zipT ?_)
  walk_at "pd"
  refine ⟨_, _, rfl, fun i δ => ∃ (x3 x4 : Option D), δ = [some (rowD u), some (rowD v), some (fr (((u.zip v).take i).foldl (fun a x => addF a (mulF x.1 x.2)) (0, 1))), x3, x4], ⟨none, none, rfl⟩, fun i d δ hd hI => ?_, fun δ hI => ?_⟩
  · obtain ⟨x3, x4, rfl⟩ := hI
    obtain ⟨p, q, hp, hq, rfl⟩ := zipD_fr hd
    have zs : (u.zip v)[i]? = some (p, q) := by
      rw [List.getElem?_zip_eq_some]
      exact ⟨hp, hq⟩
    obtain ⟨p1, p2⟩ := hu p (List.mem_of_getElem? hp)
    obtain ⟨q1, q2⟩ := hv q (List.mem_of_getElem? hq)
    have zt : (u.zip v).take i = (u.take i).zip (v.take i) := List.take_zipWith
    obtain ⟨a1, a2⟩ := dotF_ok (u := u.take i) (v := v.take i) (fun x hx => hu x (List.mem_of_mem_take hx)) (fun x hx => hv x (List.mem_of_mem_take hx)) i0 s0
    rw [← zt] at a1 a2
    have lz : ((u.zip v).take i).length ≤ 5 := by rw [List.length_take, List.length_zip]; omega
    have bound : 1 + (k + l + 1) * ((u.zip v).take i).length + (k + l) ≤ 8000 := by
      have := Nat.mul_le_mul_left (k + l + 1) lz
      omega
    refine ⟨_, gd_tup2 (gd_name (gd_name ?_))⟩
    walk_at "pd"
    refine ⟨_, _, k, l, rfl, by have := p1.1; omega, by have := q1.1; omega, p2, q2, by omega, ?_⟩
    walk_at "pd"
    refine ⟨_, _, _, _, rfl, by have := a1.1; omega, by have := (mulF_isF p1 q1).1; omega, a2, mulF_sz p2 q2, bound, ?_⟩
    refine ⟨some (fr p), some (fr q), ?_⟩
    rw [← take_snoc zs, List.foldl_append]
    rfl
  · obtain ⟨x3, x4, rfl⟩ := hI
    have full : (u.zip v).take (zipD (u.map fr) (v.map fr)).length = u.zip v := by
      rw [zipD_len2, List.length_map, List.length_map]
      apply List.take_of_length_le
      rw [List.length_zip]
      exact Nat.le_refl _
    rw [full]
    walk_at "pd"
    exact hP
/-! ### _law_product -/
/-- rows that are told cell by cell -/
def Cells (n : Nat) (X : List (List Fr)) : Prop := X.length = n ∧ ∀ r ∈ X, r.length = n ∧ ∀ p ∈ r, IsF p
def colF (n : Nat) (Y : List (List Fr)) : List (List Fr) := (List.range n).map fun j => Y.map fun r => r.getD j (0, 1)
theorem getD_P {P : Fr → Prop} {r : List Fr} {j : Nat} (hj : j < r.length) (h : ∀ p ∈ r, P p) : P (r.getD j (0, 1)) := by
  rw [List.getD_eq_getElem?_getD, List.getElem?_eq_getElem hj]
  exact h _ (List.getElem_mem hj)
def F__law_product : FD := fun ds P => ∃ (X Y : List (List Fr)) (n k l : Nat), ds = [sqD X, sqD Y] ∧ SqQ n X ∧ SqQ n Y ∧ n ≤ 5 ∧ (∀ r ∈ X, ∀ p ∈ r, IsF p ∧ Sz k p) ∧ (∀ r ∈ Y, ∀ p ∈ r, IsF p ∧ Sz l p) ∧ k + l ≤ 1200 ∧
  ∀ Z : List (List Fr), Cells n Z → (∀ i j, i < n → j < n → rowQ (Z.getD i []) j = dotQ n (rowQ (X.getD i [])) (fun m => rowQ (Y.getD m []) j)) → P (sqD Z)
theorem len__law_product : ∀ ds P, F__law_product ds P → ds.length = 2 := by (intro ds P h; first | exact h | (obtain ⟨_, rfl, _⟩ := h; rfl) | (obtain ⟨_, _, rfl, _⟩ := h; rfl) | (obtain ⟨_, _, _, rfl, _⟩ := h; rfl) | (obtain ⟨_, _, _, _, rfl, _⟩ := h; rfl) | (obtain ⟨_, _, _, _, _, rfl, _⟩ := h; rfl) | (obtain ⟨_, _, _, _, _, _, rfl, _⟩ := h; rfl) | (obtain ⟨_, _, _, _, _, _, _, rfl, _⟩ := h; rfl) | (obtain ⟨_, _, _, _, _, _, _, _, rfl, _⟩ := h; rfl) | (obtain ⟨rfl, _⟩ := h; rfl))
theorem ok__law_product (T : Txt K mg) : FnOk Pg w K mg base CX0 4 T.D__law_product.f T.D__law_product.d ["one", "other"] ((spD K F__law_product)) := by
  have G__law_dot := ok__law_dot (Pg := Pg) (w := w) (base := base) T
  refine T.D__law_product.F.ok (k := 3) sc__law_product (spD_len (len__law_product)) (fun cdv A outer s H vs Q E hr h => ?_)
  refine ⟨_, (pss_cons (ps_set (i := 2) sc__law_product.nd rfl (by first | exact Or.inl rfl | exact Or.inr rfl) (pe_lc (own := [("j", 3)]) rfl sc__law_product.nd (pi_range1 (by rfl) T.n_range (pa_cons (pe_callB (call_lenK (K := K) rfl) (by rfl) T.n_len (by decide +kernel) (pa_cons (pv 1) pa_nil)) pa_nil)) (blkOk_by (N := ["one", "other", "columns", "j", "row", "column"]) (sc := defScope s__law_product) (by decide +kernel)) (fun _ _ _ _ _ => (pg_name (i := 3) sc__law_product.nd rfl (by first | exact Or.inl rfl | exact Or.inr rfl))) (fun _ _ _ _ _ => pts_nil) (fun _ _ _ _ _ => (pe_callTy (call_tuple_ofK (K := K) rfl) (by rfl) T.n_tuple (by decide +kernel) (pa_cons (pe_lc (own := [("row", 4)]) rfl sc__law_product.nd (pi_seqK (K := K) rfl (pv 1)) (by exact blkOk_by (N := ["one", "other", "columns", "j", "row", "column"]) (by kernel_rfl)) (fun _ _ _ _ _ => (pg_name (i := 4) sc__law_product.nd rfl (by first | exact Or.inl rfl | exact Or.inr rfl))) (fun _ _ _ _ _ => pts_nil) (fun _ _ _ _ _ => (pe_ix (ix_seqK (K := K) rfl) (pv 4) (pv 3) (fun _ _ => rfl)))) pa_nil)))))
    (pss_one (ps_ret (pe_callTy (call_tuple_ofK (K := K) rfl) (by rfl) T.n_tuple (by decide +kernel) (pa_cons (pe_lc (own := [("row", 4)]) rfl sc__law_product.nd (pi_seqK (K := K) rfl (pv 0)) (blkOk_by (N := ["one", "other", "columns", "j", "row", "column"]) (sc := defScope s__law_product) (by decide +kernel)) (fun _ _ _ _ _ => (pg_name (i := 4) sc__law_product.nd rfl (by first | exact Or.inl rfl | exact Or.inr rfl))) (fun _ _ _ _ _ => pts_nil) (fun _ _ _ _ _ => (pe_callTy (call_tuple_ofK (K := K) rfl) (by rfl) T.n_tuple (by decide +kernel) (pa_cons (pe_lc (own := [("column", 5)]) rfl sc__law_product.nd (pi_seqK (K := K) rfl (pv 2)) (by exact blkOk_by (N := ["one", "other", "columns", "j", "row", "column"]) (by kernel_rfl)) (fun _ _ _ _ _ => (pg_name (i := 5) sc__law_product.nd rfl (by first | exact Or.inl rfl | exact Or.inr rfl))) (fun _ _ _ _ _ => pts_nil) (fun _ _ _ _ _ => (pe_call G__law_dot (hr.mono (by decide)) (by rfl) T.D__law_dot.g T.D__law_dot.F.kp T.D__law_dot.b .nil pass0 (pa_cons (pv 4) (pa_cons (pv 5) pa_nil))))) pa_nil)))) pa_nil))))), ?_⟩
  try dsimp only [cxOf, Cx.blk, Cx.nox, Cx.wish]
  (refine body_of h fun W ds P eK f => ?_); subst eK
  obtain ⟨X, Y, n, k, l, rfl, hX, hY, n5, sX, sY, hkl, hP⟩ := f
  have lX := hX.1
  have lY := hY.1
  walk_at "pd"
  refine ev_lcL (it_rng1 ?_)
  walk_at "pd"
  rw [List.length_map, lY]
  refine ⟨_, rfl, by omega, by omega, by rw [rngD_length]; omega, (colF n Y).map rowD, by unfold colF; rw [List.length_map, List.length_map, List.length_range, rngD_length]; omega, fun j d y hd hy => ?_, ?_⟩
  · obtain ⟨hj, rfl⟩ := rngD_get hd
    have hjn : j < n := by omega
    unfold colF at hy
    rw [List.getElem?_map, List.getElem?_map, List.getElem?_range hjn] at hy
    cases hy
    refine ⟨[3], by simp, gd_name ?_⟩
    walk_at "pd"
    refine ev_lcL (it_seqT (ev_var rfl ⟨Y.map rowD, rfl, by rw [List.length_map]; omega, (Y.map fun r => r.getD j (0, 1)).map fr, by rw [List.length_map, List.length_map, List.length_map], fun m d y hd hy => ?_, ?_⟩))
    · rw [List.getElem?_map] at hd hy
      rw [List.getElem?_map] at hy
      cases hr : Y[m]? with
      | none => rw [hr] at hd; cases hd
      | some r =>
        rw [hr] at hd hy
        cases hd
        cases hy
        have lr := hY.2 r (List.mem_of_getElem? hr)
        refine ⟨[4], by simp, gd_name ?_⟩
        walk_at "pd"
        have ek : r[j]? = some (r.getD j (0, 1)) := by
          rw [List.getD_eq_getElem?_getD, List.getElem?_eq_getElem (by omega)]
          rfl
        exact rd_ixT (j := j) (by omega) (by rw [List.getElem?_map, ek]; rfl) rfl
    · walk_at "pd"
      rfl
  · walk_at "pd"
    have colN : ∀ j, j < n → (colF n Y)[j]? = some (Y.map fun r => r.getD j (0, 1)) := fun j hj => by
      unfold colF
      rw [List.getElem?_map, List.getElem?_range hj]
      rfl
    have lC : (colF n Y).length = n := by unfold colF; rw [List.length_map, List.length_range]
    have cOk : ∀ c ∈ colF n Y, c.length = n ∧ ∀ p ∈ c, IsF p ∧ Sz l p := fun c hc => by
      obtain ⟨j, hj, rfl⟩ := List.mem_map.mp hc
      have hjn := List.mem_range.mp hj
      refine ⟨by rw [List.length_map, lY], fun p hp => ?_⟩
      obtain ⟨r, hr, rfl⟩ := List.mem_map.mp hp
      exact getD_P (P := fun p => IsF p ∧ Sz l p) (by rw [hY.2 r hr]; exact hjn) (sY r hr)
    refine ev_mid (fun d => ∃ Z : List (List Fr), d = .lst (Z.map rowD) ∧ Cells n Z ∧ ∀ i j, i < n → j < n → rowQ (Z.getD i []) j = dotQ n (rowQ (X.getD i [])) (fun m => rowQ (Y.getD m []) j)) ?_ fun d hd => ?_
    · refine ev_lcL (it_seqT (ev_var rfl ⟨X.map rowD, rfl, by rw [List.length_map]; omega, (X.map fun r => (colF n Y).map fun c => dotF r c).map rowD, by rw [List.length_map, List.length_map, List.length_map], fun i d y hd hy => ?_, ?_⟩))
      · rw [List.getElem?_map] at hd hy
        rw [List.getElem?_map] at hy
        cases hr : X[i]? with
        | none => rw [hr] at hd; cases hd
        | some r =>
          rw [hr] at hd hy
          cases hd
          cases hy
          have mr := List.mem_of_getElem? hr
          have lr := hX.2 r mr
          refine ⟨[4], by simp, gd_name ?_⟩
          walk_at "pd"
          refine ev_lcL (it_seqL (ev_var rfl ⟨(colF n Y).map rowD, rfl, by rw [List.length_map]; omega, ((colF n Y).map fun c => dotF r c).map fr, by rw [List.length_map, List.length_map, List.length_map], fun j d y hd hy => ?_, ?_⟩))
          · rw [List.getElem?_map] at hd hy
            rw [List.getElem?_map] at hy
            cases hc : (colF n Y)[j]? with
            | none => rw [hc] at hd; cases hd
            | some c =>
              rw [hc] at hd hy
              cases hd
              cases hy
              obtain ⟨lc, sc⟩ := cOk c (List.mem_of_getElem? hc)
              obtain ⟨f1, f2⟩ := dotF_spec lr lc (sX r mr) sc
              refine ⟨[5], by simp, gd_name ?_⟩
              walk_at "pd"
              refine ⟨_, _, n, k, l, rfl, lr, lc, n5, sX r mr, sc, hkl, fun q i1 i2 => ?_⟩
              rw [toQ_inj i1 f1 (i2.trans f2.symm)]
          · walk_at "pd"
            rfl
      · refine ⟨_, rfl, ⟨by rw [List.length_map, lX], fun r hr => ?_⟩, fun i j hi hj => ?_⟩
        · obtain ⟨x, hx, rfl⟩ := List.mem_map.mp hr
          refine ⟨by rw [List.length_map, lC], fun p hp => ?_⟩
          obtain ⟨c, hc, rfl⟩ := List.mem_map.mp hp
          exact (dotF_spec (hX.2 x hx) (cOk c hc).1 (sX x hx) (cOk c hc).2).1
        · have hr : X[i]? = some (X[i]'(by omega)) := List.getElem?_eq_getElem (by omega)
          generalize X[i]'(by omega) = r at hr
          have mr := List.mem_of_getElem? hr
          have er : X.getD i [] = r := by rw [List.getD_eq_getElem?_getD, hr]; rfl
          have hc := colN j hj
          obtain ⟨lc, sc⟩ := cOk _ (List.mem_of_getElem? hc)
          obtain ⟨_, f2⟩ := dotF_spec (hX.2 r mr) lc (sX r mr) sc
          have e : rowQ ((X.map fun r => (colF n Y).map fun c => dotF r c).getD i []) j = toQ (dotF r (Y.map fun r => r.getD j (0, 1))) := by
            unfold rowQ
            rw [List.getD_eq_getElem?_getD (l := List.map _ _), List.getElem?_map, hr]
            show toQ (((colF n Y).map fun c => dotF r c).getD j (0, 1)) = _
            rw [List.getD_eq_getElem?_getD (l := List.map _ _), List.getElem?_map, hc]
            rfl
          rw [e, f2, er]
          refine dotQ_congr fun m hm => ?_
          have hy : Y[m]? = some (Y[m]'(by omega)) := List.getElem?_eq_getElem (by omega)
          generalize Y[m]'(by omega) = y at hy
          have ey : Y.getD m [] = y := by rw [List.getD_eq_getElem?_getD, hy]; rfl
          congr 1
          show toQ ((Y.map fun r => r.getD j (0, 1)).getD m (0, 1)) = toQ ((Y.getD m []).getD j (0, 1))
          rw [ey, List.getD_eq_getElem?_getD (l := List.map _ _), List.getElem?_map, hy]
          rfl
    · obtain ⟨Z, rfl, hZ, hz⟩ := hd
      walk_at "pd"
      exact hP Z hZ hz
/-! ### law -/
theorem fineBl (b : Bool) : D.fine (.bl b) = true := by simp [D.fine, D.plain, D.py, SeqAt.shaped, PyData.canLay0, PyData.depth]
theorem sq_fine (R : List (List Fr)) : (sqD R).fine = true := lays_fine (n := 3) (lays_tup fun r hr => by
  obtain ⟨r, _, rfl⟩ := List.mem_map.mp hr
  exact lays_tup fun p hp => by
    obtain ⟨p, _, rfl⟩ := List.mem_map.mp hp
    simp [D.lays, D.laysA]) (by decide)
theorem ent_add {p q : Fr} (hp : IsF p ∧ p.1.natAbs ≤ 9 ∧ p.2 ∣ 12) (hq : IsF q ∧ q.1.natAbs ≤ 9 ∧ q.2 ∣ 12) : EntB (addF p q) := by
  obtain ⟨ip, tp, dp⟩ := hp
  obtain ⟨iq, tq, dq⟩ := hq
  have f := addF_isF ip iq
  have p1 := ip.1
  have q1 := iq.1
  have lp : p.2 ≤ 12 := Int.le_of_dvd (by decide) dp
  have lq : q.2 ≤ 12 := Int.le_of_dvd (by decide) dq
  refine ⟨f, ?_, ?_⟩
  · have h1 : (addF p q).1.natAbs ≤ (p.1 * q.2 + q.1 * p.2).natAbs := Int.natAbs_ediv_le_natAbs _ _
    have h2 := Int.natAbs_add_le (p.1 * q.2) (q.1 * p.2)
    rw [Int.natAbs_mul, Int.natAbs_mul] at h2
    have h3 := Nat.mul_le_mul tp (show q.2.natAbs ≤ 12 by omega)
    have h4 := Nat.mul_le_mul tq (show p.2.natAbs ≤ 12 by omega)
    omega
  · obtain ⟨u, hu⟩ := dp
    obtain ⟨v, hv⟩ := dq
    have c : (addF p q).1 * (p.2 * q.2) = (p.1 * q.2 + q.1 * p.2) * (addF p q).2 := lowF_cross (Int.mul_pos (by omega) (by omega))
    generalize addF p q = z at c f
    have e1 : z.1 * 144 = z.1 * (p.2 * q.2) * (u * v) := by
      have : (144 : Int) = 12 * 12 := by decide
      rw [this]
      grind
    rw [c] at e1
    have e2 : z.1 * 12 = (p.1 * u + q.1 * v) * z.2 := by
      have e3 : (p.1 * q.2 + q.1 * p.2) * z.2 * (u * v) = 12 * ((p.1 * u + q.1 * v) * z.2) := by grind
      omega
    exact Int.dvd_trans (cross_dvd f.2 e2) (by decide)
def sumR (n : Nat) (R : List (List Fr)) : List Fr := List.zipWith addF (R.getD 0 []) (R.getD (n / 2) [])
theorem cut_last2 {xs : List D} (h : 1 ≤ xs.length) : cutD xs none (some (-1)) = xs.dropLast := by
  unfold PD.cutD
  have e1 : HT.sIx xs.length 0 none = 0 := rfl
  have e2 : HT.sIx xs.length xs.length (some (-1)) = xs.length - 1 := by
    unfold HT.sIx
    simp
    omega
  rw [e1, e2, List.drop_zero, List.dropLast_eq_take]
  rfl
theorem row_at2 {n : Nat} {R : List (List Fr)} (h : SqQ n R) {i : Nat} (hi : i < n) : ∃ r, R[i]? = some r ∧ R.getD i [] = r ∧ r ∈ R ∧ r.length = n := by
  have e : R[i]? = some (R[i]'(by rw [h.1]; exact hi)) := List.getElem?_eq_getElem (by rw [h.1]; exact hi)
  exact ⟨_, e, by rw [List.getD_eq_getElem?_getD, e]; rfl, List.mem_of_getElem? e, h.2 _ (List.mem_of_getElem? e)⟩
theorem sqB_sum {n : Nat} {R : List (List Fr)} (h : SqC n R) (h1 : 1 ≤ n) : SqB n (R.dropLast ++ [sumR n R]) := by
  obtain ⟨r, e1, e2, hm, lr⟩ := row_at2 h.1 (show 0 < n by omega)
  obtain ⟨s, f1, f2, hs, ls⟩ := row_at2 h.1 (show n / 2 < n by omega)
  unfold sumR
  rw [e2, f2]
  refine ⟨⟨by rw [List.length_append, List.length_dropLast, h.1.1]; show n - 1 + 1 = n; omega, fun x hx => ?_⟩, fun x hx p hp => ?_⟩
  · rcases List.mem_append.mp hx with hx | hx
    · exact h.1.2 x (List.dropLast_subset _ hx)
    · rw [List.mem_singleton.mp hx, List.length_zipWith]
      omega
  · rcases List.mem_append.mp hx with hx | hx
    · exact (sqC_b h).2 x (List.dropLast_subset _ hx) p hp
    · rw [List.mem_singleton.mp hx] at hp
      obtain ⟨j, hj⟩ := List.mem_iff_getElem?.mp hp
      rw [List.getElem?_zipWith] at hj
      cases ha : r[j]? with
      | none => rw [ha] at hj; cases hj
      | some a =>
        rw [ha] at hj
        cases hb : s[j]? with
        | none => rw [hb] at hj; cases hj
        | some b =>
          rw [hb] at hj
          cases hj
          exact ent_add (h.2 r hm a (List.mem_of_getElem? ha)) (h.2 s hs b (List.mem_of_getElem? hb))
theorem frs_of {P : Fr → Prop} : ∀ {l : List D}, (∀ y ∈ l, ∃ p, P p ∧ y = fr p) → ∃ t : List Fr, l = t.map fr ∧ ∀ p ∈ t, P p
  | [], _ => ⟨[], rfl, fun p hp => by cases hp⟩
  | y :: l, h => by
    obtain ⟨p, hp, rfl⟩ := h y List.mem_cons_self
    obtain ⟨t, rfl, ht⟩ := frs_of (l := l) fun z hz => h z (List.mem_cons_of_mem _ hz)
    exact ⟨p :: t, rfl, fun q hq => by
      rcases List.mem_cons.mp hq with rfl | hq
      · exact hp
      · exact ht q hq⟩
theorem eq_toQ2 {p q : Fr} (hp : IsF p) (hq : IsF q) (e : toQ p = toQ q) : p = q := toQ_inj hp hq e
theorem entB_sz10 {p : Fr} (h : EntB p) : Sz 10 p := by
  obtain ⟨⟨a, _⟩, b, c⟩ := h
  have l : p.2 ≤ 24 := Int.le_of_dvd (by decide) c
  have e : (2 : Nat) ^ 10 = 1024 := by decide
  exact ⟨by omega, by omega⟩
theorem idS_ok (n : Nat) : Ident n (idS n) := fun i l hi hl => by
  unfold idS
  rw [List.getD_eq_getElem?_getD, List.getElem?_map, List.getElem?_range hi]
  show toQ (((List.range n).map fun j => if i = j then ((1, 1) : Fr) else (0, 1)).getD l (0, 1)) = _
  rw [List.getD_eq_getElem?_getD, List.getElem?_map, List.getElem?_range hl]
  show toQ (if i = l then ((1, 1) : Fr) else (0, 1)) = _
  split
  · rw [toQ_int]
    rfl
  · rw [toQ_int]
    rfl
theorem idS_cells (n : Nat) : Cells n (idS n) := by
  unfold idS
  refine ⟨by rw [List.length_map, List.length_range], fun r hr => ?_⟩
  obtain ⟨i, _, rfl⟩ := List.mem_map.mp hr
  refine ⟨by rw [List.length_map, List.length_range], fun p hp => ?_⟩
  obtain ⟨j, _, rfl⟩ := List.mem_map.mp hp
  split
  · exact ⟨by decide, by decide⟩
  · exact ⟨by decide, by decide⟩
theorem row_eq {n : Nat} {u v : List Fr} (lu : u.length = n) (lv : v.length = n) (hu : ∀ p ∈ u, IsF p) (hv : ∀ p ∈ v, IsF p) (h : ∀ j, j < n → rowQ u j = rowQ v j) : u = v := by
  apply List.ext_getElem?
  intro j
  by_cases hj : j < n
  · have e1 : u[j]? = some (u[j]'(by omega)) := List.getElem?_eq_getElem (by omega)
    have e2 : v[j]? = some (v[j]'(by omega)) := List.getElem?_eq_getElem (by omega)
    have m1 := List.mem_of_getElem? e1
    have m2 := List.mem_of_getElem? e2
    have hh := h j hj
    unfold rowQ at hh
    rw [List.getD_eq_getElem?_getD, List.getD_eq_getElem?_getD, e1, e2] at hh
    rw [e1, e2]
    congr 1
    exact eq_toQ2 (hu _ m1) (hv _ m2) hh
  · rw [List.getElem?_eq_none (by omega), List.getElem?_eq_none (by omega)]
theorem sq_eq {n : Nat} {X Y : List (List Fr)} (hX : Cells n X) (hY : Cells n Y) (h : ∀ i j, i < n → j < n → rowQ (X.getD i []) j = rowQ (Y.getD i []) j) : X = Y := by
  apply List.ext_getElem?
  intro i
  by_cases hi : i < n
  · have lx := hX.1
    have ly := hY.1
    have e1 : X[i]? = some (X[i]'(by omega)) := List.getElem?_eq_getElem (by omega)
    have e2 : Y[i]? = some (Y[i]'(by omega)) := List.getElem?_eq_getElem (by omega)
    have m1 := hX.2 _ (List.mem_of_getElem? e1)
    have m2 := hY.2 _ (List.mem_of_getElem? e2)
    rw [e1, e2]
    congr 1
    refine row_eq m1.1 m2.1 m1.2 m2.2 fun j hj => ?_
    have hh := h i j hi hj
    rw [List.getD_eq_getElem?_getD, List.getD_eq_getElem?_getD, e1, e2] at hh
    exact hh
  · have lx := hX.1
    have ly := hY.1
    rw [List.getElem?_eq_none (by omega), List.getElem?_eq_none (by omega)]
theorem dotQ_delta (i : Nat) (u : Nat → Rat) : ∀ n, dotQ n (fun c => if i = c then 1 else 0) u = if i < n then u i else 0
  | 0 => rfl
  | n + 1 => by
    show dotQ n _ u + (if i = n then 1 else 0) * u n = _
    rw [dotQ_delta i u n]
    by_cases h : i = n
    · subst h
      rw [if_neg (by omega), if_pos rfl, if_pos (by omega)]
      grind
    · rw [if_neg h]
      by_cases h2 : i < n
      · rw [if_pos h2, if_pos (by omega)]
        grind
      · rw [if_neg h2, if_neg (by omega)]
        grind
-- read below
theorem ok_law (T : Txt K mg) : FnOk Pg w K mg base CX0 6 T.D_law.f T.D_law.d ["script"] (spLaw K) := by
  have G__law_dot := ok__law_dot (Pg := Pg) (w := w) (base := base) T
  have G__law_draw := ok__law_draw (Pg := Pg) (w := w) (base := base) T
  have G__law_hand := ok__law_hand (Pg := Pg) (w := w) (base := base) T
  have G__law_lowest := ok__law_lowest (Pg := Pg) (w := w) (base := base) T
  have G__law_plus := ok__law_plus (Pg := Pg) (w := w) (base := base) T
  have G__law_product := ok__law_product (Pg := Pg) (w := w) (base := base) T
  have G__law_square := ok__law_square (Pg := Pg) (w := w) (base := base) T
  have G_determinant := ok_determinant (Pg := Pg) (w := w) (base := base) T
  have G_inverse := ok_inverse (Pg := Pg) (w := w) (base := base) T
  have G_solution := ok_solution (Pg := Pg) (w := w) (base := base) T
  refine T.D_law.F.ok (k := 5) sc_law (fun vs H Q E h => by obtain ⟨_, _, rfl, _⟩ := h; rfl) (fun cdv A outer s H vs Q E hr h => ?_)
  refine ⟨_, (pss_cons (ps_set (i := 1) sc_law.nd rfl (by first | exact Or.inl rfl | exact Or.inr rfl) (pe_call G__law_hand (hr.mono (by decide)) (by rfl) T.D__law_hand.g T.D__law_hand.F.kp T.D__law_hand.b .nil pass0 (pa_cons (pv 0) pa_nil)))
    (pss_cons (ps_for PassesOwn.never rfl (pi_range1 (by rfl) T.n_range (pa_cons pe_int pa_nil)) (pg_name (i := 2) sc_law.nd rfl (by first | exact Or.inl rfl | exact Or.inr rfl))
      (pss_cons (ps_set (i := 3) sc_law.nd rfl (by first | exact Or.inl rfl | exact Or.inr rfl) (pe_op (op_plusK (K := K) rfl) pe_int (pe_call G__law_draw (hr.mono (by decide)) (by rfl) T.D__law_draw.g T.D__law_draw.F.kp T.D__law_draw.b .nil pass0 (pa_cons (pv 1) (pa_cons pe_int pa_nil)))))
    (pss_cons (ps_set (i := 4) sc_law.nd rfl (by first | exact Or.inl rfl | exact Or.inr rfl) (pe_call G__law_square (hr.mono (by decide)) (by rfl) T.D__law_square.g T.D__law_square.F.kp T.D__law_square.b .nil pass0 (pa_cons (pv 1) (pa_cons (pv 3) pa_nil))))
    (pss_cons (ps_if (PW.pt (pw_and (pt_cmpR op_gt (pv 3) pe_int (nomark _)) (pw_and1 (pt_cmpR (op_eqDK (K := K) rfl (hr_u hr)) (pe_call G__law_draw (hr.mono (by decide)) (by rfl) T.D__law_draw.g T.D__law_draw.F.kp T.D__law_draw.b .nil pass0 (pa_cons (pv 1) (pa_cons pe_int pa_nil))) pe_int (nomark _)))))
      (pss_one (ps_set (i := 4) sc_law.nd rfl (by first | exact Or.inl rfl | exact Or.inr rfl) (pe_op (op_plusK (K := K) rfl) (pe_slice (sl_tupAK (K := K) rfl) (pv 4) po_none (po_some (pe_un un_neg pe_int))) (pe_tup (pa_cons (pe_callTy (call_tuple_ofK (K := K) rfl) (by rfl) T.n_tuple (by decide +kernel) (pa_cons (pe_lc (own := [("one", 8), ("other", 12)]) rfl sc_law.nd (pi_zipAK (K := K) rfl (by rfl) T.n_zip (pa_cons (pe_ix (ix_seqK (K := K) rfl) (pv 4) pe_int (fun _ _ => rfl)) (pa_cons (pe_ix (ix_seqK (K := K) rfl) (pv 4) (pe_op op_fdivW (pv 3) pe_int) (fun _ _ => rfl)) pa_nil))) (blkOk_by (N := ["script", "hand", "turn", "many", "rows", "right", "turned", "solved", "one", "i", "row", "j", "other"]) (sc := defScope s_law) (by decide +kernel)) (fun _ _ _ _ _ => (by exact (pg_tupK (K := K) (n := 2) rfl rfl (pgs_cons (pg_name (i := 8) sc_law.nd rfl (by first | exact Or.inl rfl | exact Or.inr rfl)) (pgs_cons (pg_name (i := 12) sc_law.nd rfl (by first | exact Or.inl rfl | exact Or.inr rfl)) pgs_nil))))) (fun _ _ _ _ _ => pts_nil) (fun _ _ _ _ _ => (pe_call G__law_plus (hr.mono (by decide)) (by rfl) T.D__law_plus.g T.D__law_plus.F.kp T.D__law_plus.b .nil pass0 (pa_cons (pv 8) (pa_cons (pv 12) pa_nil))))) pa_nil)) pa_nil)))))
      pss_nil)
    (pss_cons (ps_set (i := 5) sc_law.nd rfl (by first | exact Or.inl rfl | exact Or.inr rfl) (pe_callTy (call_tuple_ofK (K := K) rfl) (by rfl) T.n_tuple (by decide +kernel) (pa_cons (pe_lc (own := [("i", 9)]) rfl sc_law.nd (pi_range1 (by rfl) T.n_range (pa_cons (pv 3) pa_nil)) (blkOk_by (N := ["script", "hand", "turn", "many", "rows", "right", "turned", "solved", "one", "i", "row", "j", "other"]) (sc := defScope s_law) (by decide +kernel)) (fun _ _ _ _ _ => (pg_name (i := 9) sc_law.nd rfl (by first | exact Or.inl rfl | exact Or.inr rfl))) (fun _ _ _ _ _ => pts_nil) (fun _ _ _ _ _ => (pe_call G__law_lowest (hr.mono (by decide)) (by rfl) T.D__law_lowest.g T.D__law_lowest.F.kp T.D__law_lowest.b .nil pass0 (pa_cons (pe_op op_sub (pe_call G__law_draw (hr.mono (by decide)) (by rfl) T.D__law_draw.g T.D__law_draw.F.kp T.D__law_draw.b .nil pass0 (pa_cons (pv 1) (pa_cons pe_int pa_nil))) pe_int) (pa_cons (pe_op (op_plusK (K := K) rfl) pe_int (pe_call G__law_draw (hr.mono (by decide)) (by rfl) T.D__law_draw.g T.D__law_draw.F.kp T.D__law_draw.b .nil pass0 (pa_cons (pv 1) (pa_cons pe_int pa_nil)))) pa_nil))))) pa_nil)))
    (pss_cons (ps_set (i := 6) sc_law.nd rfl (by first | exact Or.inl rfl | exact Or.inr rfl) (pe_call G_inverse (hr.mono (by decide)) (by rfl) T.D_inverse.g T.D_inverse.F.kp T.D_inverse.b .nil pass0 (pa_cons (pv 4) pa_nil)))
    (pss_cons (ps_set (i := 7) sc_law.nd rfl (by first | exact Or.inl rfl | exact Or.inr rfl) (pe_call G_solution (hr.mono (by decide)) (by rfl) T.D_solution.g T.D_solution.F.kp T.D_solution.b .nil pass0 (pa_cons (pv 4) (pa_cons (pv 5) pa_nil))))
    (pss_cons (ps_if (PW.pt (pw_or (pt_cmpR (op_neDK (K := K) rfl (hr_u hr)) (pe_cmpR op_isN (pv 6) pe_non (nomark _)) (pe_cmpR (op_eqDK (K := K) rfl (hr_u hr)) (pe_call G_determinant (hr.mono (by decide)) (by rfl) T.D_determinant.g T.D_determinant.F.kp T.D_determinant.b .nil pass0 (pa_cons (pv 4) pa_nil)) (pe_tup (pa_cons pe_int (pa_cons pe_int pa_nil))) (nomark _)) (nomark _)) (pw_or1 (pt_cmpR (op_neDK (K := K) rfl (hr_u hr)) (pe_cmpR op_isN (pv 7) pe_non (nomark _)) (pe_cmpR op_isN (pv 6) pe_non (nomark _)) (nomark _)))))
      (pss_one (ps_ret pe_bl))
      pss_nil)
    (pss_one (ps_if (pt_cmpR op_notN (pv 6) pe_non (nomark _))
      (pss_cons (ps_set (i := 8) sc_law.nd rfl (by first | exact Or.inl rfl | exact Or.inr rfl) (pe_callTy (call_tuple_ofK (K := K) rfl) (by rfl) T.n_tuple (by decide +kernel) (pa_cons (pe_lc (own := [("i", 9)]) rfl sc_law.nd (pi_range1 (by rfl) T.n_range (pa_cons (pv 3) pa_nil)) (blkOk_by (N := ["script", "hand", "turn", "many", "rows", "right", "turned", "solved", "one", "i", "row", "j", "other"]) (sc := defScope s_law) (by decide +kernel)) (fun _ _ _ _ _ => (pg_name (i := 9) sc_law.nd rfl (by first | exact Or.inl rfl | exact Or.inr rfl))) (fun _ _ _ _ _ => pts_nil) (fun _ _ _ _ _ => (pe_callTy (call_tuple_ofK (K := K) rfl) (by rfl) T.n_tuple (by decide +kernel) (pa_cons (pe_lc (own := [("j", 11)]) rfl sc_law.nd (pi_range1 (by rfl) T.n_range (pa_cons (pv 3) pa_nil)) (by exact blkOk_by (N := ["script", "hand", "turn", "many", "rows", "right", "turned", "solved", "one", "i", "row", "j", "other"]) (by kernel_rfl)) (fun _ _ _ _ _ => (pg_name (i := 11) sc_law.nd rfl (by first | exact Or.inl rfl | exact Or.inr rfl))) (fun _ _ _ _ _ => pts_nil) (fun _ _ _ _ _ => (pe_tup (pa_cons (pe_callTy call_int1 (by rfl) T.n_int (by decide +kernel) (pa_cons (pe_cmpR (op_eqDK (K := K) rfl (hr_u hr)) (pv 9) (pv 11) (nomark _)) pa_nil)) (pa_cons pe_int pa_nil))))) pa_nil)))) pa_nil)))
    (pss_cons (ps_if (PW.pt (pw_or (pt_not (pt_val (pe_callB (call_isiK' (K := K) rfl) (by rfl) T.n_isinstance (by decide +kernel) (pa_cons (pv 6) (pa_cons (pe_bltn (v := .ty "tuple") (u := .type "tuple") (by rfl) T.n_tuple (by decide +kernel) rfl) pa_nil))))) (pw_or1 (pt_not (pt_val (pe_callB (cr_allK (K := K) rfl rfl) (by rfl) T.n_all (by decide +kernel) (pa_cons (pe_lc (own := [("row", 10)]) rfl sc_law.nd (pi_seqK (K := K) rfl (pv 6)) (blkOk_by (N := ["script", "hand", "turn", "many", "rows", "right", "turned", "solved", "one", "i", "row", "j", "other"]) (sc := defScope s_law) (by decide +kernel)) (fun _ _ _ _ _ => (pg_name (i := 10) sc_law.nd rfl (by first | exact Or.inl rfl | exact Or.inr rfl))) (fun _ _ _ _ _ => pts_nil) (fun _ _ _ _ _ => (pe_callB (call_isiK' (K := K) rfl) (by rfl) T.n_isinstance (by decide +kernel) (pa_cons (pv 10) (pa_cons (pe_bltn (v := .ty "tuple") (u := .type "tuple") (by rfl) T.n_tuple (by decide +kernel) rfl) pa_nil))))) pa_nil)))))))
      (pss_one (ps_ret pe_bl))
      pss_nil)
    (pss_cons (ps_if (PW.pt (pw_or (pt_cmpR (op_neDK (K := K) rfl (hr_u hr)) (pe_call G__law_product (hr.mono (by decide)) (by rfl) T.D__law_product.g T.D__law_product.F.kp T.D__law_product.b .nil pass0 (pa_cons (pv 6) (pa_cons (pv 4) pa_nil))) (pv 8) (nomark _)) (pw_or1 (pt_cmpR (op_neDK (K := K) rfl (hr_u hr)) (pe_call G__law_product (hr.mono (by decide)) (by rfl) T.D__law_product.g T.D__law_product.F.kp T.D__law_product.b .nil pass0 (pa_cons (pv 4) (pa_cons (pv 6) pa_nil))) (pv 8) (nomark _)))))
      (pss_one (ps_ret pe_bl))
      pss_nil)
    (pss_cons (ps_if (PW.pt (pw_or (pt_not (pt_val (pe_callB (call_isiK' (K := K) rfl) (by rfl) T.n_isinstance (by decide +kernel) (pa_cons (pv 7) (pa_cons (pe_bltn (v := .ty "tuple") (u := .type "tuple") (by rfl) T.n_tuple (by decide +kernel) rfl) pa_nil))))) (pw_or1 (pt_cmpR (op_neDK (K := K) rfl (hr_u hr)) (pe_callTy (call_tuple_ofK (K := K) rfl) (by rfl) T.n_tuple (by decide +kernel) (pa_cons (pe_lc (own := [("row", 10)]) rfl sc_law.nd (pi_seqK (K := K) rfl (pv 4)) (blkOk_by (N := ["script", "hand", "turn", "many", "rows", "right", "turned", "solved", "one", "i", "row", "j", "other"]) (sc := defScope s_law) (by decide +kernel)) (fun _ _ _ _ _ => (pg_name (i := 10) sc_law.nd rfl (by first | exact Or.inl rfl | exact Or.inr rfl))) (fun _ _ _ _ _ => pts_nil) (fun _ _ _ _ _ => (pe_call G__law_dot (hr.mono (by decide)) (by rfl) T.D__law_dot.g T.D__law_dot.F.kp T.D__law_dot.b .nil pass0 (pa_cons (pv 10) (pa_cons (pv 7) pa_nil))))) pa_nil)) (pv 5) (nomark _)))))
      (pss_one (ps_ret pe_bl))
      pss_nil)
    (pss_one (ps_if (pt_cmpR (op_neDK (K := K) rfl (hr_u hr)) (pv 7) (pe_callTy (call_tuple_ofK (K := K) rfl) (by rfl) T.n_tuple (by decide +kernel) (pa_cons (pe_lc (own := [("row", 10)]) rfl sc_law.nd (pi_seqK (K := K) rfl (pv 6)) (blkOk_by (N := ["script", "hand", "turn", "many", "rows", "right", "turned", "solved", "one", "i", "row", "j", "other"]) (sc := defScope s_law) (by decide +kernel)) (fun _ _ _ _ _ => (pg_name (i := 10) sc_law.nd rfl (by first | exact Or.inl rfl | exact Or.inr rfl))) (fun _ _ _ _ _ => pts_nil) (fun _ _ _ _ _ => (pe_call G__law_dot (hr.mono (by decide)) (by rfl) T.D__law_dot.g T.D__law_dot.F.kp T.D__law_dot.b .nil pass0 (pa_cons (pv 10) (pa_cons (pv 5) pa_nil))))) pa_nil)) (nomark _))
      (pss_one (ps_ret pe_bl))
      pss_nil))))))
      pss_nil))))))))))
    (pss_one (ps_ret pe_bl)))), ?_⟩
  try dsimp only [cxOf, Cx.blk, Cx.nox, Cx.wish]
  refine law_bodyH h fun W eK => so_lift ?_
  subst eK
  walk_at "pd"
  refine sd_for (it_rng1 ?_)
  walk_at "pd"
  refine ⟨_, rfl, by decide, by decide, fun _ δ => ∃ (x2 x3 x4 x5 x6 x7 x8 x9 x10 x11 x12 : Option D), δ = [none, some .st, x2, x3, x4, x5, x6, x7, x8, x9, x10, x11, x12], ⟨none, none, none, none, none, none, none, none, none, none, none, rfl⟩, fun i d δ hd hI => ?_, fun δ hI => ?_⟩
  · obtain ⟨x2, x3, x4, x5, x6, x7, x8, x9, x10, x11, x12, rfl⟩ := hI
    obtain ⟨hi, rfl⟩ := rngD_get hd
    refine ⟨_, gd_name ?_⟩
    walk_at "pd"
    refine draw_lit (by decide +kernel) fun a a0 a1 => ?_
    walk_at "pd"
    obtain ⟨n, en⟩ : ∃ n : Nat, (n : Int) = 1 + a := ⟨(1 + a).toNat, by omega⟩
    rw [← en]
    have n1 : 1 ≤ n := by omega
    have n5 : n ≤ 5 := by omega
    refine ⟨n, rfl, n1, by omega, fun R0 hR0 => ?_⟩
    refine sd_cut (fun δ => ∃ (R : List (List Fr)), SqB n R ∧ δ = [none, some .st, some (.int (0 + (i : Int))), some (.int n), some (sqD R), x5, x6, x7, x8, x9, x10, x11, x12]) ?_ fun δ hδ => ?_
    · have plain : ∃ (R : List (List Fr)), SqB n R ∧ [none, some D.st, some (.int (0 + (i : Int))), some (.int n), some (sqD R0), x5, x6, x7, x8, x9, x10, x11, x12] = [none, some D.st, some (.int (0 + (i : Int))), some (.int n), some (sqD R), x5, x6, x7, x8, x9, x10, x11, x12] := ⟨R0, sqC_b hR0, rfl⟩
      refine sd_if ?_
      walk_at "pd"
      refine ⟨fun _ => ?_, fun _ => ?_⟩
      · walk_at "pd"
        refine draw_lit (by decide +kernel) fun c c0 c1 => ?_
        walk_at "pd"
        refine ⟨fun _ => ?_, fun _ => ?_⟩
        · walk_at "pd"
          have nb := sqB_sum hR0 n1
          obtain ⟨r, e1, e2, hm, lr⟩ := row_at2 hR0.1 (show 0 < n by omega)
          obtain ⟨s, f1, f2, hs, ls⟩ := row_at2 hR0.1 (show n / 2 < n by omega)
          refine ⟨_, rfl, ?_⟩
          walk_at "pd"
          refine ⟨_, rfl, ?_⟩
          walk_at "pd"
          refine ev_lcL (it_zipT ?_)
          walk_at "pd"
          refine rd_ixT (j := 0) rfl (by rw [List.getElem?_map, e1]; rfl) ?_
          walk_at "pd"
          · exact div_small (by decide) (by decide)
          refine rd_ixT (j := n / 2) (by omega) (by rw [List.getElem?_map, f1]; rfl) ?_
          walk_at "pd"
          have lz : (zipD (r.map fr) (s.map fr)).length = n := by
            rw [zipD_len2, List.length_map, List.length_map]
            omega
          have lsu : (List.zipWith addF r s).length = n := by
            rw [List.length_zipWith]
            omega
          refine ⟨_, _, rfl, by omega, (List.zipWith addF r s).map fr, by rw [List.length_map, lsu, lz], fun k d y hd hy => ?_, ?_⟩
          · obtain ⟨p, q, hp, hq, rfl⟩ := zipD_fr hd
            rw [List.getElem?_map, List.getElem?_zipWith, hp, hq] at hy
            cases hy
            have ep := (sqC_b hR0).2 r hm p (List.mem_of_getElem? hp)
            have eq := (sqC_b hR0).2 s hs q (List.mem_of_getElem? hq)
            refine ⟨[8] ++ [12], by simp, gd_tup2 (gd_name (gd_name ?_))⟩
            walk_at "pd"
            exact ⟨_, _, _, _, rfl, by have := ep.1.1; omega, by have := eq.1.1; omega, entB_sz10 ep, entB_sz10 eq, by decide, rfl⟩
          · walk_at "pd"
            have cl : PD.cutD (R0.map rowD) none (some (-1)) = R0.dropLast.map rowD := by
              rw [cut_last2 (by rw [List.length_map, hR0.1.1]; exact n1), List.map_dropLast]
            rw [cl]
            refine rd_plusT (by rw [List.length_map, List.length_dropLast, hR0.1.1]; show n - 1 + 1 ≤ 100000; omega) ?_
            refine ⟨R0.dropLast ++ [sumR n R0], nb, ?_⟩
            unfold sumR
            rw [e2, f2]
            show _ = [none, some D.st, some (.int (0 + (i : Int))), some (.int n), some (D.tup ((R0.dropLast ++ [List.zipWith addF r s]).map rowD)), x5, x6, x7, x8, x9, x10, x11, x12]
            rw [List.map_append]
            rfl
        · walk_at "pd"
          exact plain
      · walk_at "pd"
        exact plain
    · obtain ⟨R, hR, rfl⟩ := hδ
      have lR := hR.1.1
      walk_at "pd"
      refine ev_lcAll (fun y => ∃ p, EntB p ∧ y = fr p) (it_rng1 ?_)
      walk_at "pd"
      refine ⟨_, rfl, by omega, by omega, by rw [rngD_length]; omega, fun k d hd => ?_, fun l hl hG => ?_⟩
      · refine ⟨[9], by simp, gd_name ?_⟩
        walk_at "pd"
        refine draw_lit (by decide +kernel) fun u u0 u1 => ?_
        walk_at "pd"
        refine draw_lit (by decide +kernel) fun v v0 v1 => ?_
        walk_at "pd"
        refine ⟨_, _, rfl, by omega, Nat.lt_of_lt_of_le (show (1 + v).natAbs < 2 ^ 4 by omega) (Nat.pow_le_pow_right (by decide) (by decide)), ?_⟩
        exact ⟨_, (entB_draw u0 u1 v0 v1).1, rfl⟩
      obtain ⟨t, rfl, ht⟩ := frs_of hG
      rw [List.length_map, rngD_length] at hl
      have lt : t.length = n := by omega
      walk_at "pd"
      by_cases z : detQ n R = 0
      · refine ⟨n, R, rfl, hR, n1, n5, fun _ => ?_, fun res h _ => absurd z h⟩
        walk_at "pd"
        refine ⟨n, R, t, rfl, hR, lt, ht, n1, n5, fun _ => ?_, fun res h _ => absurd z h⟩
        walk_at "pd"
        refine ⟨n, R, rfl, hR, n1, by omega, fun q i1 i2 => ?_⟩
        have e : q = (0, 1) := eq_toQ2 i1 ⟨by decide, by decide⟩ (by rw [i2, z, toQ_int]; rfl)
        subst e
        walk_at "pd"
        refine rd_neD (x := .bl true) (y := .bl true) (fineBl true) (fineBl true) ?_
        rw [D.eqv_self (fineBl true)]
        walk_at "pd"
        refine rd_neD (x := .bl true) (y := .bl true) (fineBl true) (fineBl true) ?_
        rw [D.eqv_self (fineBl true)]
        walk_at "pd"
        exact ⟨_, _, _, _, _, _, _, _, _, _, _, rfl⟩
      · refine ⟨n, R, rfl, hR, n1, n5, fun h => absurd h z, fun res _ hs => ?_⟩
        walk_at "pd"
        refine ⟨n, R, t, rfl, hR, lt, ht, n1, n5, fun h => absurd h z, fun res2 _ hs2 => ?_⟩
        walk_at "pd"
        refine ⟨n, R, rfl, hR, n1, by omega, fun q i1 i2 => ?_⟩
        have e : q ≠ (0, 1) := fun e => z (by rw [← i2, e, toQ_int]; rfl)
        walk_at "pd"
        have e2 : decide (((q.1, q.2) : Fr) = (0, 1)) = false := decide_eq_false e
        rw [e2]
        refine rd_neD (x := .bl false) (y := .bl false) (fineBl false) (fineBl false) ?_
        rw [D.eqv_self (fineBl false)]
        walk_at "pd"
        refine rd_neD (x := .bl false) (y := .bl false) (fineBl false) (fineBl false) ?_
        rw [D.eqv_self (fineBl false)]
        walk_at "pd"
        have lres := hs.l
        refine ev_lcL (it_rng1 ?_)
        walk_at "pd"
        refine ⟨_, rfl, by omega, by omega, by rw [rngD_length]; omega, (idS n).map rowD, by rw [List.length_map, (idS_cells n).1, rngD_length]; omega, fun k d y hd hy => ?_, ?_⟩
        · obtain ⟨hk, rfl⟩ := rngD_get hd
          have hkn : k < n := by omega
          unfold idS at hy
          rw [List.getElem?_map, List.getElem?_map, List.getElem?_range hkn] at hy
          cases hy
          refine ⟨[9], by simp, gd_name ?_⟩
          walk_at "pd"
          refine ev_lcL (it_rng1 ?_)
          walk_at "pd"
          refine ⟨_, rfl, by omega, by omega, by rw [rngD_length]; omega, ((List.range n).map fun j => if k = j then ((1, 1) : Fr) else (0, 1)).map fr, by rw [List.length_map, List.length_map, List.length_range, rngD_length]; omega, fun j d y hd hy => ?_, ?_⟩
          · obtain ⟨hj, rfl⟩ := rngD_get hd
            have hjn : j < n := by omega
            rw [List.getElem?_map, List.getElem?_map, List.getElem?_range hjn] at hy
            cases hy
            refine ⟨[11], by simp, gd_name ?_⟩
            walk_at "pd"
            refine rc_int1b ?_
            walk_at "pd"
            by_cases e : k = j
            · subst e
              rw [decide_eq_true rfl]
              show D.tup [D.int 1, D.int 1] = fr (if k = k then _ else _)
              rw [if_pos rfl]
            · rw [decide_eq_false (show ¬(0 + (k : Int) = 0 + (j : Int)) by omega)]
              show D.tup [D.int 0, D.int 1] = fr (if k = j then _ else _)
              rw [if_neg e]
          · walk_at "pd"
            rfl
        · walk_at "pd"
          refine ev_lcL (it_seqT (ev_var rfl ⟨res.map rowD, rfl, by rw [List.length_map]; omega, (res.map fun _ => true).map D.bl, by rw [List.length_map, List.length_map, List.length_map], fun j d y hd hy => ?_, ?_⟩))
          · rw [List.getElem?_map] at hd hy
            rw [List.getElem?_map] at hy
            cases hp : res[j]? with
            | none => rw [hp] at hd; cases hd
            | some r =>
              rw [hp] at hd hy
              cases hd
              cases hy
              refine ⟨[10], by simp, gd_name ?_⟩
              walk_at "pd"
              rfl
          · walk_at "pd"
            refine rc_all ?_
            rw [all_true]
            walk_at "pd"
            have rC : Cells n res := ⟨lres, fun r hr => ⟨(hs.r r hr).1, fun p hp => ((hs.r r hr).2 p hp).1⟩⟩
            have rQ : SqQ n res := ⟨lres, fun r hr => (hs.r r hr).1⟩
            have rS : ∀ r ∈ res, ∀ p ∈ r, IsF p ∧ Sz 600 p := fun r hr => (hs.r r hr).2
            have RS : ∀ r ∈ R, ∀ p ∈ r, IsF p ∧ Sz 10 p := fun r hr p hp => ⟨(hR.2 r hr p hp).1, entB_sz10 (hR.2 r hr p hp)⟩
            refine ⟨res, R, n, 600, 10, rfl, rQ, hR.1, n5, rS, RS, by decide, fun Z hZ hz => ?_⟩
            have eZ : Z = idS n := sq_eq hZ (idS_cells n) fun i j hi hj => by
              rw [hz i j hi hj, hs.lin (idS_ok n) i hi j hj, idS_ok n i j hi hj]
            subst eZ
            walk_at "pd"
            refine rd_neD (sq_fine (idS n)) (sq_fine (idS n)) ?_
            rw [D.eqv_self (sq_fine (idS n))]
            walk_at "pd"
            refine ⟨R, res, n, 10, 600, rfl, hR.1, rQ, n5, RS, rS, by decide, fun Z hZ hz => ?_⟩
            have eZ : Z = idS n := sq_eq hZ (idS_cells n) fun i j hi hj => by
              rw [hz i j hi hj, hs.ker j hj i hi]
            subst eZ
            walk_at "pd"
            refine rd_neD (sq_fine (idS n)) (sq_fine (idS n)) ?_
            rw [D.eqv_self (sq_fine (idS n))]
            walk_at "pd"
            have su := fun p (hp : p ∈ res2.map fun r => r.getD 0 (0, 1)) => show IsF p ∧ Sz 600 p by
              obtain ⟨r, hr, rfl⟩ := List.mem_map.mp hp
              have := hs2.r r hr
              exact getD_P (by omega) this.2
            have lu : (res2.map fun r => r.getD 0 (0, 1)).length = n := by rw [List.length_map, hs2.l]
            have ker : ∀ l, l < n → dotQ n (rowQ (R.getD l [])) (rowQ (res2.map fun r => r.getD 0 (0, 1))) = rowQ t l := fun l hl => by
              have h := hs2.ker 0 (by decide) l hl
              have e1 : rowQ ((t.map fun p => [p]).getD l []) 0 = rowQ t l := by
                unfold rowQ
                rw [List.getD_eq_getElem?_getD (l := t.map _), List.getElem?_map, List.getElem?_eq_getElem (show l < t.length by omega), List.getD_eq_getElem?_getD (l := t), List.getElem?_eq_getElem (show l < t.length by omega)]
                rfl
              rw [e1] at h
              rw [← h]
              refine dotQ_congr fun c hc => ?_
              congr 1
              unfold rowQ
              rw [List.getD_eq_getElem?_getD (l := res2.map _), List.getElem?_map, List.getElem?_eq_getElem (show c < res2.length by have := hs2.l; omega), List.getD_eq_getElem?_getD (l := res2), List.getElem?_eq_getElem (show c < res2.length by have := hs2.l; omega)]
              rfl
            generalize (res2.map fun r => r.getD 0 (0, 1)) = u at su lu ker
            have ts : ∀ p ∈ t, IsF p ∧ Sz 10 p := fun p hp => ⟨(ht p hp).1, entB_sz10 (ht p hp)⟩
            refine ev_lcL (it_seqT (ev_var rfl ⟨R.map rowD, rfl, by rw [List.length_map]; omega, t.map fr, by rw [List.length_map, List.length_map]; omega, fun j d y hd hy => ?_, ?_⟩))
            · rw [List.getElem?_map] at hd hy
              cases hp : R[j]? with
              | none => rw [hp] at hd; cases hd
              | some r =>
                cases hq : t[j]? with
                | none => rw [hq] at hy; cases hy
                | some p =>
                  rw [hp] at hd
                  rw [hq] at hy
                  cases hd
                  cases hy
                  have hj : j < n := by
                    have := (List.getElem?_eq_some_iff.mp hp).1
                    omega
                  have mr := List.mem_of_getElem? hp
                  refine ⟨[10], by simp, gd_name ?_⟩
                  walk_at "pd"
                  refine ⟨r, u, n, 10, 600, rfl, hR.1.2 r mr, lu, n5, RS r mr, su, by decide, fun q i1 i2 => ?_⟩
                  have hk := ker j hj
                  rw [List.getD_eq_getElem?_getD, hp] at hk
                  have e : q = p := eq_toQ2 i1 (ts p (List.mem_of_getElem? hq)).1 (by
                    rw [i2]
                    refine hk.trans ?_
                    unfold rowQ
                    rw [List.getD_eq_getElem?_getD, hq]
                    rfl)
                  rw [e]
            · walk_at "pd"
              refine rd_neD (un_fine t) (un_fine t) ?_
              rw [D.eqv_self (un_fine t)]
              walk_at "pd"
              refine ev_lcL (it_seqT (ev_var rfl ⟨res.map rowD, rfl, by rw [List.length_map]; omega, u.map fr, by rw [List.length_map, List.length_map]; omega, fun j d y hd hy => ?_, ?_⟩))
              · rw [List.getElem?_map] at hd hy
                cases hp : res[j]? with
                | none => rw [hp] at hd; cases hd
                | some r =>
                  cases hq : u[j]? with
                  | none => rw [hq] at hy; cases hy
                  | some p =>
                    rw [hp] at hd
                    rw [hq] at hy
                    cases hd
                    cases hy
                    have hj : j < n := by
                      have := (List.getElem?_eq_some_iff.mp hp).1
                      omega
                    have mr := List.mem_of_getElem? hp
                    refine ⟨[10], by simp, gd_name ?_⟩
                    walk_at "pd"
                    refine ⟨r, t, n, 600, 10, rfl, (hs.r r mr).1, lt, n5, rS r mr, ts, by decide, fun q i1 i2 => ?_⟩
                    have e : q = p := eq_toQ2 i1 (su p (List.mem_of_getElem? hq)).1 (by
                      rw [i2]
                      have x1 : dotQ n (rowQ r) (rowQ t) = dotQ n (rowQ r) (fun l => dotQ n (rowQ (R.getD l [])) (rowQ u)) := dotQ_congr fun c hc => by rw [ker c hc]
                      rw [x1, dotQ_swap (fun l => rowQ (R.getD l [])) (rowQ u) n (rowQ r) n]
                      have x2 : dotQ n (fun c => dotQ n (rowQ r) (fun l => rowQ (R.getD l []) c)) (rowQ u) = dotQ n (fun c => if j = c then 1 else 0) (rowQ u) := dotQ_congr fun c hc => by
                        have := hs.lin (idS_ok n) j hj c hc
                        rw [List.getD_eq_getElem?_getD, hp] at this
                        have this : dotQ n (rowQ r) (fun l => rowQ (R.getD l []) c) = _ := this
                        rw [this]
                      rw [x2, dotQ_delta, if_pos hj]
                      unfold rowQ
                      rw [List.getD_eq_getElem?_getD, hq]
                      rfl)
                    rw [e]
              · walk_at "pd"
                refine rd_neD (un_fine u) (un_fine u) ?_
                rw [D.eqv_self (un_fine u)]
                walk_at "pd"
                exact ⟨_, _, _, _, _, _, _, _, _, _, _, rfl⟩
  · obtain ⟨x2, x3, x4, x5, x6, x7, x8, x9, x10, x11, x12, rfl⟩ := hI
    walk_at "pd"
    rfl
end
theorem all_mk {Pg : Program} {w : World} {K : PySem.W.Frag} {h : Heap} {mg : Str → Option Value} {fa : Addr} (X : K.In h) (G : h.Ns mainGlobals mg) (hfa : mg "law" = some (.ref fa))
    {f0 : Addr} {od0 an0 : Option Addr} {sl0 : Array (Option Value)} {oc0 kV0 dc0 pm0 cd0 ct0 : Value}
    {f1 : Addr} {od1 an1 : Option Addr} {sl1 : Array (Option Value)} {oc1 kV1 dc1 pm1 cd1 ct1 : Value}
    {f2 : Addr} {od2 an2 : Option Addr} {sl2 : Array (Option Value)} {oc2 kV2 dc2 pm2 cd2 ct2 : Value}
    {f3 : Addr} {od3 an3 : Option Addr} {sl3 : Array (Option Value)} {oc3 kV3 dc3 pm3 cd3 ct3 : Value}
    {f4 : Addr} {od4 an4 : Option Addr} {sl4 : Array (Option Value)} {oc4 kV4 dc4 pm4 cd4 ct4 : Value}
    {f5 : Addr} {od5 an5 : Option Addr} {sl5 : Array (Option Value)} {oc5 kV5 dc5 pm5 cd5 ct5 : Value}
    {f6 : Addr} {od6 an6 : Option Addr} {sl6 : Array (Option Value)} {oc6 kV6 dc6 pm6 cd6 ct6 : Value}
    {f7 : Addr} {od7 an7 : Option Addr} {sl7 : Array (Option Value)} {oc7 kV7 dc7 pm7 cd7 ct7 : Value}
    {f8 : Addr} {od8 an8 : Option Addr} {sl8 : Array (Option Value)} {oc8 kV8 dc8 pm8 cd8 ct8 : Value}
    {f9 : Addr} {od9 an9 : Option Addr} {sl9 : Array (Option Value)} {oc9 kV9 dc9 pm9 cd9 ct9 : Value}
    {f10 : Addr} {od10 an10 : Option Addr} {sl10 : Array (Option Value)} {oc10 kV10 dc10 pm10 cd10 ct10 : Value}
    {f11 : Addr} {od11 an11 : Option Addr} {sl11 : Array (Option Value)} {oc11 kV11 dc11 pm11 cd11 ct11 : Value}
    {f12 : Addr} {od12 an12 : Option Addr} {sl12 : Array (Option Value)} {oc12 kV12 dc12 pm12 cd12 ct12 : Value}
    {f13 : Addr} {od13 an13 : Option Addr} {sl13 : Array (Option Value)} {oc13 kV13 dc13 pm13 cd13 ct13 : Value}
    {f14 : Addr} {od14 an14 : Option Addr} {sl14 : Array (Option Value)} {oc14 kV14 dc14 pm14 cd14 ct14 : Value}
    {f15 : Addr} {od15 an15 : Option Addr} {sl15 : Array (Option Value)} {oc15 kV15 dc15 pm15 cd15 ct15 : Value}
    {f16 : Addr} {od16 an16 : Option Addr} {sl16 : Array (Option Value)} {oc16 kV16 dc16 pm16 cd16 ct16 : Value}
    {f17 : Addr} {od17 an17 : Option Addr} {sl17 : Array (Option Value)} {oc17 kV17 dc17 pm17 cd17 ct17 : Value}
    {f18 : Addr} {od18 an18 : Option Addr} {sl18 : Array (Option Value)} {oc18 kV18 dc18 pm18 cd18 ct18 : Value}
    {f19 : Addr} {od19 an19 : Option Addr} {sl19 : Array (Option Value)} {oc19 kV19 dc19 pm19 cd19 ct19 : Value}
    {f20 : Addr} {od20 an20 : Option Addr} {sl20 : Array (Option Value)} {oc20 kV20 dc20 pm20 cd20 ct20 : Value}
    {f21 : Addr} {od21 an21 : Option Addr} {sl21 : Array (Option Value)} {oc21 kV21 dc21 pm21 cd21 ct21 : Value}
    {t_MOST_ROWS : Tok}
    (a0 : PySem.W.nsIn K mainGlobals "_law_hand" = some (some (.ref f0)))
    (a1 : PySem.W.nsIn K mainGlobals "_law_lowest" = some (some (.ref f1)))
    (a2 : PySem.W.nsIn K mainGlobals "_law_draw" = some (some (.ref f2)))
    (a3 : PySem.W.nsIn K mainGlobals "_law_square" = some (some (.ref f3)))
    (a4 : PySem.W.nsIn K mainGlobals "is_pair" = some (some (.ref f4)))
    (a5 : PySem.W.nsIn K mainGlobals "is_whole" = some (some (.ref f5)))
    (a6 : PySem.W.nsIn K mainGlobals "is_fraction" = some (some (.ref f6)))
    (a7 : PySem.W.nsIn K mainGlobals "_is_square" = some (some (.ref f7)))
    (a8 : PySem.W.nsIn K mainGlobals "check_square_numbers" = some (some (.ref f8)))
    (a9 : PySem.W.nsIn K mainGlobals "as_wholes" = some (some (.ref f9)))
    (a10 : PySem.W.nsIn K mainGlobals "_cleared" = some (some (.ref f10)))
    (a11 : PySem.W.nsIn K mainGlobals "lowest" = some (some (.ref f11)))
    (a12 : PySem.W.nsIn K mainGlobals "_solved" = some (some (.ref f12)))
    (a13 : PySem.W.nsIn K mainGlobals "inverse" = some (some (.ref f13)))
    (a14 : PySem.W.nsIn K mainGlobals "solution" = some (some (.ref f14)))
    (a15 : PySem.W.nsIn K mainGlobals "whole_determinant" = some (some (.ref f15)))
    (a16 : PySem.W.nsIn K mainGlobals "determinant" = some (some (.ref f16)))
    (a17 : PySem.W.nsIn K mainGlobals "_law_plus" = some (some (.ref f17)))
    (a18 : PySem.W.nsIn K mainGlobals "_law_times" = some (some (.ref f18)))
    (a19 : PySem.W.nsIn K mainGlobals "_law_dot" = some (some (.ref f19)))
    (a20 : PySem.W.nsIn K mainGlobals "_law_product" = some (some (.ref f20)))
    (a21 : PySem.W.nsIn K mainGlobals "law" = some (some (.ref f21)))
    (l0 : K.lookup f0 = some ⟨oc0, od0, .func (PySem.W.fnOf "_law_hand" "_law_hand" (defArgs s__law_hand) (defBody s__law_hand) (defScope s__law_hand) .none kV0 dc0 pm0 an0 cd0 ct0), sl0⟩)
    (c0 : PySem.W.codeIn K cd0 "_law_hand" = true)
    (k0 : PySem.W.keepIn K (.ref f0) = true)
    (l1 : K.lookup f1 = some ⟨oc1, od1, .func (PySem.W.fnOf "_law_lowest" "_law_lowest" (defArgs s__law_lowest) (defBody s__law_lowest) (defScope s__law_lowest) .none kV1 dc1 pm1 an1 cd1 ct1), sl1⟩)
    (c1 : PySem.W.codeIn K cd1 "_law_lowest" = true)
    (k1 : PySem.W.keepIn K (.ref f1) = true)
    (l2 : K.lookup f2 = some ⟨oc2, od2, .func (PySem.W.fnOf "_law_draw" "_law_draw" (defArgs s__law_draw) (defBody s__law_draw) (defScope s__law_draw) .none kV2 dc2 pm2 an2 cd2 ct2), sl2⟩)
    (c2 : PySem.W.codeIn K cd2 "_law_draw" = true)
    (k2 : PySem.W.keepIn K (.ref f2) = true)
    (l3 : K.lookup f3 = some ⟨oc3, od3, .func (PySem.W.fnOf "_law_square" "_law_square" (defArgs s__law_square) (defBody s__law_square) (defScope s__law_square) .none kV3 dc3 pm3 an3 cd3 ct3), sl3⟩)
    (c3 : PySem.W.codeIn K cd3 "_law_square" = true)
    (k3 : PySem.W.keepIn K (.ref f3) = true)
    (l4 : K.lookup f4 = some ⟨oc4, od4, .func (PySem.W.fnOf "is_pair" "is_pair" (defArgs s_is_pair) (defBody s_is_pair) (defScope s_is_pair) .none kV4 dc4 pm4 an4 cd4 ct4), sl4⟩)
    (c4 : PySem.W.codeIn K cd4 "is_pair" = true)
    (k4 : PySem.W.keepIn K (.ref f4) = true)
    (l5 : K.lookup f5 = some ⟨oc5, od5, .func (PySem.W.fnOf "is_whole" "is_whole" (defArgs s_is_whole) (defBody s_is_whole) (defScope s_is_whole) .none kV5 dc5 pm5 an5 cd5 ct5), sl5⟩)
    (c5 : PySem.W.codeIn K cd5 "is_whole" = true)
    (k5 : PySem.W.keepIn K (.ref f5) = true)
    (l6 : K.lookup f6 = some ⟨oc6, od6, .func (PySem.W.fnOf "is_fraction" "is_fraction" (defArgs s_is_fraction) (defBody s_is_fraction) (defScope s_is_fraction) .none kV6 dc6 pm6 an6 cd6 ct6), sl6⟩)
    (c6 : PySem.W.codeIn K cd6 "is_fraction" = true)
    (k6 : PySem.W.keepIn K (.ref f6) = true)
    (l7 : K.lookup f7 = some ⟨oc7, od7, .func (PySem.W.fnOf "_is_square" "_is_square" (defArgs s__is_square) (defBody s__is_square) (defScope s__is_square) .none kV7 dc7 pm7 an7 cd7 ct7), sl7⟩)
    (c7 : PySem.W.codeIn K cd7 "_is_square" = true)
    (k7 : PySem.W.keepIn K (.ref f7) = true)
    (l8 : K.lookup f8 = some ⟨oc8, od8, .func (PySem.W.fnOf "check_square_numbers" "check_square_numbers" (defArgs s_check_square_numbers) (defBody s_check_square_numbers) (defScope s_check_square_numbers) .none kV8 dc8 pm8 an8 cd8 ct8), sl8⟩)
    (c8 : PySem.W.codeIn K cd8 "check_square_numbers" = true)
    (k8 : PySem.W.keepIn K (.ref f8) = true)
    (l9 : K.lookup f9 = some ⟨oc9, od9, .func (PySem.W.fnOf "as_wholes" "as_wholes" (defArgs s_as_wholes) (defBody s_as_wholes) (defScope s_as_wholes) .none kV9 dc9 pm9 an9 cd9 ct9), sl9⟩)
    (c9 : PySem.W.codeIn K cd9 "as_wholes" = true)
    (k9 : PySem.W.keepIn K (.ref f9) = true)
    (l10 : K.lookup f10 = some ⟨oc10, od10, .func (PySem.W.fnOf "_cleared" "_cleared" (defArgs s__cleared) (defBody s__cleared) (defScope s__cleared) .none kV10 dc10 pm10 an10 cd10 ct10), sl10⟩)
    (c10 : PySem.W.codeIn K cd10 "_cleared" = true)
    (k10 : PySem.W.keepIn K (.ref f10) = true)
    (l11 : K.lookup f11 = some ⟨oc11, od11, .func (PySem.W.fnOf "lowest" "lowest" (defArgs s_lowest) (defBody s_lowest) (defScope s_lowest) .none kV11 dc11 pm11 an11 cd11 ct11), sl11⟩)
    (c11 : PySem.W.codeIn K cd11 "lowest" = true)
    (k11 : PySem.W.keepIn K (.ref f11) = true)
    (l12 : K.lookup f12 = some ⟨oc12, od12, .func (PySem.W.fnOf "_solved" "_solved" (defArgs s__solved) (defBody s__solved) (defScope s__solved) .none kV12 dc12 pm12 an12 cd12 ct12), sl12⟩)
    (c12 : PySem.W.codeIn K cd12 "_solved" = true)
    (k12 : PySem.W.keepIn K (.ref f12) = true)
    (l13 : K.lookup f13 = some ⟨oc13, od13, .func (PySem.W.fnOf "inverse" "inverse" (defArgs s_inverse) (defBody s_inverse) (defScope s_inverse) .none kV13 dc13 pm13 an13 cd13 ct13), sl13⟩)
    (c13 : PySem.W.codeIn K cd13 "inverse" = true)
    (k13 : PySem.W.keepIn K (.ref f13) = true)
    (l14 : K.lookup f14 = some ⟨oc14, od14, .func (PySem.W.fnOf "solution" "solution" (defArgs s_solution) (defBody s_solution) (defScope s_solution) .none kV14 dc14 pm14 an14 cd14 ct14), sl14⟩)
    (c14 : PySem.W.codeIn K cd14 "solution" = true)
    (k14 : PySem.W.keepIn K (.ref f14) = true)
    (l15 : K.lookup f15 = some ⟨oc15, od15, .func (PySem.W.fnOf "whole_determinant" "whole_determinant" (defArgs s_whole_determinant) (defBody s_whole_determinant) (defScope s_whole_determinant) .none kV15 dc15 pm15 an15 cd15 ct15), sl15⟩)
    (c15 : PySem.W.codeIn K cd15 "whole_determinant" = true)
    (k15 : PySem.W.keepIn K (.ref f15) = true)
    (l16 : K.lookup f16 = some ⟨oc16, od16, .func (PySem.W.fnOf "determinant" "determinant" (defArgs s_determinant) (defBody s_determinant) (defScope s_determinant) .none kV16 dc16 pm16 an16 cd16 ct16), sl16⟩)
    (c16 : PySem.W.codeIn K cd16 "determinant" = true)
    (k16 : PySem.W.keepIn K (.ref f16) = true)
    (l17 : K.lookup f17 = some ⟨oc17, od17, .func (PySem.W.fnOf "_law_plus" "_law_plus" (defArgs s__law_plus) (defBody s__law_plus) (defScope s__law_plus) .none kV17 dc17 pm17 an17 cd17 ct17), sl17⟩)
    (c17 : PySem.W.codeIn K cd17 "_law_plus" = true)
    (k17 : PySem.W.keepIn K (.ref f17) = true)
    (l18 : K.lookup f18 = some ⟨oc18, od18, .func (PySem.W.fnOf "_law_times" "_law_times" (defArgs s__law_times) (defBody s__law_times) (defScope s__law_times) .none kV18 dc18 pm18 an18 cd18 ct18), sl18⟩)
    (c18 : PySem.W.codeIn K cd18 "_law_times" = true)
    (k18 : PySem.W.keepIn K (.ref f18) = true)
    (l19 : K.lookup f19 = some ⟨oc19, od19, .func (PySem.W.fnOf "_law_dot" "_law_dot" (defArgs s__law_dot) (defBody s__law_dot) (defScope s__law_dot) .none kV19 dc19 pm19 an19 cd19 ct19), sl19⟩)
    (c19 : PySem.W.codeIn K cd19 "_law_dot" = true)
    (k19 : PySem.W.keepIn K (.ref f19) = true)
    (l20 : K.lookup f20 = some ⟨oc20, od20, .func (PySem.W.fnOf "_law_product" "_law_product" (defArgs s__law_product) (defBody s__law_product) (defScope s__law_product) .none kV20 dc20 pm20 an20 cd20 ct20), sl20⟩)
    (c20 : PySem.W.codeIn K cd20 "_law_product" = true)
    (k20 : PySem.W.keepIn K (.ref f20) = true)
    (l21 : K.lookup f21 = some ⟨oc21, od21, .func (PySem.W.fnOf "law" "law" (defArgs s_law) (defBody s_law) (defScope s_law) .none kV21 dc21 pm21 an21 cd21 ct21), sl21⟩)
    (c21 : PySem.W.codeIn K cd21 "law" = true)
    (k21 : PySem.W.keepIn K (.ref f21) = true)
    (c_MOST_ROWS : PySem.W.nsIn K mainGlobals "MOST_ROWS" = some (some (.int 10 t_MOST_ROWS)))
    (n_abs : PySem.W.nsIn K mainGlobals "abs" = some none)
    (n_all : PySem.W.nsIn K mainGlobals "all" = some none)
    (n_bool : PySem.W.nsIn K mainGlobals "bool" = some none)
    (n_enumerate : PySem.W.nsIn K mainGlobals "enumerate" = some none)
    (n_int : PySem.W.nsIn K mainGlobals "int" = some none)
    (n_isinstance : PySem.W.nsIn K mainGlobals "isinstance" = some none)
    (n_len : PySem.W.nsIn K mainGlobals "len" = some none)
    (n_range : PySem.W.nsIn K mainGlobals "range" = some none)
    (n_tuple : PySem.W.nsIn K mainGlobals "tuple" = some none)
    (n_zip : PySem.W.nsIn K mainGlobals "zip" = some none)
    (v_gcd : PySem.W.nsIn K mainGlobals "gcd" = some (some (.builtin "math.gcd")))
    (v_lcm : PySem.W.nsIn K mainGlobals "lcm" = some (some (.builtin "math.lcm"))) :
    ∃ fd : FuncData, (∀ (s : Shared) (v : Value), BindsTo s fd ⟨[v], []⟩ [("script", v)]) ∧ ∀ base : Heap, K.In base → base.Ns mainGlobals mg → FnOk Pg w K mg base CX0 6 fa fd ["script"] (spLaw K) := by
  have e := hfa.symm.trans (PySem.W.mg_of X G a21)
  cases e
  have F0 := fun_mk (st := s__law_hand) l0 c0 k0
  have b0 := F0.binds (ps := ["script"]) fun _ _ _ _ _ _ us hl => match us, hl with | [_], _ => rfl
  have F1 := fun_mk (st := s__law_lowest) l1 c1 k1
  have b1 := F1.binds (ps := ["top", "below"]) fun _ _ _ _ _ _ us hl => match us, hl with | [_, _], _ => rfl
  have F2 := fun_mk (st := s__law_draw) l2 c2 k2
  have b2 := F2.binds (ps := ["hand", "many"]) fun _ _ _ _ _ _ us hl => match us, hl with | [_, _], _ => rfl
  have F3 := fun_mk (st := s__law_square) l3 c3 k3
  have b3 := F3.binds (ps := ["hand", "many"]) fun _ _ _ _ _ _ us hl => match us, hl with | [_, _], _ => rfl
  have F4 := fun_mk (st := s_is_pair) l4 c4 k4
  have b4 := F4.binds (ps := ["thing"]) fun _ _ _ _ _ _ us hl => match us, hl with | [_], _ => rfl
  have F5 := fun_mk (st := s_is_whole) l5 c5 k5
  have b5 := F5.binds (ps := ["thing"]) fun _ _ _ _ _ _ us hl => match us, hl with | [_], _ => rfl
  have F6 := fun_mk (st := s_is_fraction) l6 c6 k6
  have b6 := F6.binds (ps := ["thing"]) fun _ _ _ _ _ _ us hl => match us, hl with | [_], _ => rfl
  have F7 := fun_mk (st := s__is_square) l7 c7 k7
  have b7 := F7.binds (ps := ["thing"]) fun _ _ _ _ _ _ us hl => match us, hl with | [_], _ => rfl
  have F8 := fun_mk (st := s_check_square_numbers) l8 c8 k8
  have b8 := F8.binds (ps := ["numbers"]) fun _ _ _ _ _ _ us hl => match us, hl with | [_], _ => rfl
  have F9 := fun_mk (st := s_as_wholes) l9 c9 k9
  have b9 := F9.binds (ps := ["fractions"]) fun _ _ _ _ _ _ us hl => match us, hl with | [_], _ => rfl
  have F10 := fun_mk (st := s__cleared) l10 c10 k10
  have b10 := F10.binds (ps := ["row", "pivot", "k", "before"]) fun _ _ _ _ _ _ us hl => match us, hl with | [_, _, _, _], _ => rfl
  have F11 := fun_mk (st := s_lowest) l11 c11 k11
  have b11 := F11.binds (ps := ["top", "bottom"]) fun _ _ _ _ _ _ us hl => match us, hl with | [_, _], _ => rfl
  have F12 := fun_mk (st := s__solved) l12 c12 k12
  have b12 := F12.binds (ps := ["numbers", "sides"]) fun _ _ _ _ _ _ us hl => match us, hl with | [_, _], _ => rfl
  have F13 := fun_mk (st := s_inverse) l13 c13 k13
  have b13 := F13.binds (ps := ["numbers"]) fun _ _ _ _ _ _ us hl => match us, hl with | [_], _ => rfl
  have F14 := fun_mk (st := s_solution) l14 c14 k14
  have b14 := F14.binds (ps := ["numbers", "right"]) fun _ _ _ _ _ _ us hl => match us, hl with | [_, _], _ => rfl
  have F15 := fun_mk (st := s_whole_determinant) l15 c15 k15
  have b15 := F15.binds (ps := ["rows"]) fun _ _ _ _ _ _ us hl => match us, hl with | [_], _ => rfl
  have F16 := fun_mk (st := s_determinant) l16 c16 k16
  have b16 := F16.binds (ps := ["numbers"]) fun _ _ _ _ _ _ us hl => match us, hl with | [_], _ => rfl
  have F17 := fun_mk (st := s__law_plus) l17 c17 k17
  have b17 := F17.binds (ps := ["one", "other"]) fun _ _ _ _ _ _ us hl => match us, hl with | [_, _], _ => rfl
  have F18 := fun_mk (st := s__law_times) l18 c18 k18
  have b18 := F18.binds (ps := ["one", "other"]) fun _ _ _ _ _ _ us hl => match us, hl with | [_, _], _ => rfl
  have F19 := fun_mk (st := s__law_dot) l19 c19 k19
  have b19 := F19.binds (ps := ["one", "other"]) fun _ _ _ _ _ _ us hl => match us, hl with | [_, _], _ => rfl
  have F20 := fun_mk (st := s__law_product) l20 c20 k20
  have b20 := F20.binds (ps := ["one", "other"]) fun _ _ _ _ _ _ us hl => match us, hl with | [_, _], _ => rfl
  have F21 := fun_mk (st := s_law) l21 c21 k21
  have b21 := F21.binds (ps := ["script"]) fun _ _ _ _ _ _ us hl => match us, hl with | [_], _ => rfl
  let T : Txt K mg := { D__law_hand := ⟨f0, _, F0, PySem.W.mg_of X G a0, b0⟩, D__law_lowest := ⟨f1, _, F1, PySem.W.mg_of X G a1, b1⟩, D__law_draw := ⟨f2, _, F2, PySem.W.mg_of X G a2, b2⟩, D__law_square := ⟨f3, _, F3, PySem.W.mg_of X G a3, b3⟩, D_is_pair := ⟨f4, _, F4, PySem.W.mg_of X G a4, b4⟩, D_is_whole := ⟨f5, _, F5, PySem.W.mg_of X G a5, b5⟩, D_is_fraction := ⟨f6, _, F6, PySem.W.mg_of X G a6, b6⟩, D__is_square := ⟨f7, _, F7, PySem.W.mg_of X G a7, b7⟩, D_check_square_numbers := ⟨f8, _, F8, PySem.W.mg_of X G a8, b8⟩, D_as_wholes := ⟨f9, _, F9, PySem.W.mg_of X G a9, b9⟩, D__cleared := ⟨f10, _, F10, PySem.W.mg_of X G a10, b10⟩, D_lowest := ⟨f11, _, F11, PySem.W.mg_of X G a11, b11⟩, D__solved := ⟨f12, _, F12, PySem.W.mg_of X G a12, b12⟩, D_inverse := ⟨f13, _, F13, PySem.W.mg_of X G a13, b13⟩, D_solution := ⟨f14, _, F14, PySem.W.mg_of X G a14, b14⟩, D_whole_determinant := ⟨f15, _, F15, PySem.W.mg_of X G a15, b15⟩, D_determinant := ⟨f16, _, F16, PySem.W.mg_of X G a16, b16⟩, D__law_plus := ⟨f17, _, F17, PySem.W.mg_of X G a17, b17⟩, D__law_times := ⟨f18, _, F18, PySem.W.mg_of X G a18, b18⟩, D__law_dot := ⟨f19, _, F19, PySem.W.mg_of X G a19, b19⟩, D__law_product := ⟨f20, _, F20, PySem.W.mg_of X G a20, b20⟩, D_law := ⟨fa, _, F21, PySem.W.mg_of X G a21, b21⟩, t_MOST_ROWS := t_MOST_ROWS, c_MOST_ROWS := PySem.W.mg_of X G c_MOST_ROWS, n_abs := PySem.W.mg_none_of X G n_abs, n_all := PySem.W.mg_none_of X G n_all, n_bool := PySem.W.mg_none_of X G n_bool, n_enumerate := PySem.W.mg_none_of X G n_enumerate, n_int := PySem.W.mg_none_of X G n_int, n_isinstance := PySem.W.mg_none_of X G n_isinstance, n_len := PySem.W.mg_none_of X G n_len, n_range := PySem.W.mg_none_of X G n_range, n_tuple := PySem.W.mg_none_of X G n_tuple, n_zip := PySem.W.mg_none_of X G n_zip, v_gcd := PySem.W.mg_of X G v_gcd, v_lcm := PySem.W.mg_of X G v_lcm }
  exact ⟨T.D_law.d, fun s v => .of_eq rfl, fun base _ _ => ok_law T⟩
end Lk60
open PySem PySem.W PyProof.Rows
set_option maxRecDepth 100000 in
set_option maxHeartbeats 0 in
theorem PySem.Challenge.cw_unitgrids_k60_whole_inverses_and_solutio_holds : PySem.Challenge.rw_unitgrids_k60_whole_inverses_and_solutio.Holds := by
  w_on; o_law; k_head; (case hw => w_witness2)
  k_fill
  refine L2.walk_of (l := PySem.Challenge.rw_unitgrids_k60_whole_inverses_and_solutio) (n := 63) (k := 6) (x := "script") (CX := fun _ => L2.CX0) (sp := fun w => PD.spLaw _) rfl (by decide) rfl ⟨rfl, by decide, by decide⟩ (fun w h Y => PySem.W.kIn_of Y) ?F (fun _ _ a ns hl _ hS => ⟨a, ns, rfl, hS, hl, fun _ => rfl⟩) (fun _ _ _ _ _ h => h)
  case F =>
    intro w mg fa h KX G hmg
    refine' Lk60.all_mk KX G hmg ?a0 ?a1 ?a2 ?a3 ?a4 ?a5 ?a6 ?a7 ?a8 ?a9 ?a10 ?a11 ?a12 ?a13 ?a14 ?a15 ?a16 ?a17 ?a18 ?a19 ?a20 ?a21 ?l0 ?c0 ?k0 ?l1 ?c1 ?k1 ?l2 ?c2 ?k2 ?l3 ?c3 ?k3 ?l4 ?c4 ?k4 ?l5 ?c5 ?k5 ?l6 ?c6 ?k6 ?l7 ?c7 ?k7 ?l8 ?c8 ?k8 ?l9 ?c9 ?k9 ?l10 ?c10 ?k10 ?l11 ?c11 ?k11 ?l12 ?c12 ?k12 ?l13 ?c13 ?k13 ?l14 ?c14 ?k14 ?l15 ?c15 ?k15 ?l16 ?c16 ?k16 ?l17 ?c17 ?k17 ?l18 ?c18 ?k18 ?l19 ?c19 ?k19 ?l20 ?c20 ?k20 ?l21 ?c21 ?k21 ?c_MOST_ROWS ?n_abs ?n_all ?n_bool ?n_enumerate ?n_int ?n_isinstance ?n_len ?n_range ?n_tuple ?n_zip ?v_gcd ?v_lcm
    (case a0 => k_is)
    (case a1 => k_is)
    (case a2 => k_is)
    (case a3 => k_is)
    (case a4 => k_is)
    (case a5 => k_is)
    (case a6 => k_is)
    (case a7 => k_is)
    (case a8 => k_is)
    (case a9 => k_is)
    (case a10 => k_is)
    (case a11 => k_is)
    (case a12 => k_is)
    (case a13 => k_is)
    (case a14 => k_is)
    (case a15 => k_is)
    (case a16 => k_is)
    (case a17 => k_is)
    (case a18 => k_is)
    (case a19 => k_is)
    (case a20 => k_is)
    (case a21 => k_is)
    (case l0 => k_is)
    (case c0 => k_is)
    (case k0 => k_is)
    (case l1 => k_is)
    (case c1 => k_is)
    (case k1 => k_is)
    (case l2 => k_is)
    (case c2 => k_is)
    (case k2 => k_is)
    (case l3 => k_is)
    (case c3 => k_is)
    (case k3 => k_is)
    (case l4 => k_is)
    (case c4 => k_is)
    (case k4 => k_is)
    (case l5 => k_is)
    (case c5 => k_is)
    (case k5 => k_is)
    (case l6 => k_is)
    (case c6 => k_is)
    (case k6 => k_is)
    (case l7 => k_is)
    (case c7 => k_is)
    (case k7 => k_is)
    (case l8 => k_is)
    (case c8 => k_is)
    (case k8 => k_is)
    (case l9 => k_is)
    (case c9 => k_is)
    (case k9 => k_is)
    (case l10 => k_is)
    (case c10 => k_is)
    (case k10 => k_is)
    (case l11 => k_is)
    (case c11 => k_is)
    (case k11 => k_is)
    (case l12 => k_is)
    (case c12 => k_is)
    (case k12 => k_is)
    (case l13 => k_is)
    (case c13 => k_is)
    (case k13 => k_is)
    (case l14 => k_is)
    (case c14 => k_is)
    (case k14 => k_is)
    (case l15 => k_is)
    (case c15 => k_is)
    (case k15 => k_is)
    (case l16 => k_is)
    (case c16 => k_is)
    (case k16 => k_is)
    (case l17 => k_is)
    (case c17 => k_is)
    (case k17 => k_is)
    (case l18 => k_is)
    (case c18 => k_is)
    (case k18 => k_is)
    (case l19 => k_is)
    (case c19 => k_is)
    (case k19 => k_is)
    (case l20 => k_is)
    (case c20 => k_is)
    (case k20 => k_is)
    (case l21 => k_is)
    (case c21 => k_is)
    (case k21 => k_is)
    (case c_MOST_ROWS => k_is)
    (case n_abs => k_is)
    (case n_all => k_is)
    (case n_bool => k_is)
    (case n_enumerate => k_is)
    (case n_int => k_is)
    (case n_isinstance => k_is)
    (case n_len => k_is)
    (case n_range => k_is)
    (case n_tuple => k_is)
    (case n_zip => k_is)
    (case v_gcd => k_is)
    (case v_lcm => k_is)

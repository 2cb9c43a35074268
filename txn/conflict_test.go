package txn

import (
	"fmt"
	"testing"

	"flint/api"
)

// meeting is what two transactions do at the same time, and what the one is answered that commits behind the other.
type meeting struct {
	first, second []api.Op
	want          api.Errno
}

// meetings are some, over /d, /d/a, /e, /e/b and /f, which is linked as /g.
func meetings() []meeting {
	l := func(o ...api.Op) []api.Op { return o }
	return []meeting{
		// What was only looked at.
		{l(), l(), api.OK},
		{l(create("/x")), l(), api.OK},
		{l(create("/x")), l(stat("/x")), api.ErrConflict},
		{l(create("/x")), l(stat("/y")), api.OK},
		{l(create("/x")), l(stat("/")), api.OK},
		{l(create("/x")), l(readdir("/")), api.ErrConflict},
		{l(create("/x")), l(readdir("/d")), api.OK},
		{l(create("/d/x")), l(readdir("/d")), api.ErrConflict},
		{l(create("/d/x")), l(readdir("/e")), api.OK},
		{l(mkdir("/x")), l(stat("/")), api.ErrConflict},
		{l(unlink("/d/a")), l(stat("/d/a")), api.ErrConflict},
		{l(unlink("/d/a")), l(open("/d/a")), api.ErrConflict},
		{l(unlink("/d/a")), l(readdir("/d")), api.ErrConflict},
		{l(unlink("/d/a")), l(stat("/e/b")), api.OK},
		{l(unlink("/g")), l(stat("/f")), api.ErrConflict},
		{l(open("/f"), write(0, "x")), l(open("/g"), read(0, 9)), api.ErrConflict},
		{l(open("/f"), write(0, "x")), l(open("/d/a"), read(0, 9)), api.OK},
		{l(open("/f"), truncate(1)), l(stat("/g")), api.ErrConflict},
		{l(open("/f"), read(0, 9)), l(open("/f"), write(0, "x")), api.OK},
		{l(rename("/d", "/x")), l(stat("/d/a")), api.ErrConflict},
		{l(rename("/d/a", "/e/c")), l(readdir("/e")), api.ErrConflict},
		{l(rename("/d/a", "/e/c")), l(stat("/d")), api.OK},
		// An error is an answer, too.
		{l(create("/x")), l(mkdir("/x/y")), api.ErrConflict},
		{l(unlink("/d/a")), l(rmdir("/d")), api.ErrConflict},
		{l(create("/x")), l(rmdir("/d")), api.OK},
		{l(open("/f"), write(0, "x")), l(mkdir("/f")), api.ErrConflict},
		{l(create("/x")), l(create("x"), create("/.."), stat("")), api.OK},
		// What was written.
		{l(create("/x")), l(create("/x")), api.ErrConflict},
		{l(create("/x")), l(create("/y")), api.OK},
		{l(create("/d/x")), l(create("/d/y")), api.OK},
		{l(create("/d/x")), l(create("/e/x")), api.OK},
		{l(mkdir("/d/x")), l(mkdir("/e/x")), api.OK},
		{l(mkdir("/d/x")), l(mkdir("/d/y")), api.ErrConflict},
		{l(open("/f"), write(0, "x")), l(open("/g"), write(99, "y")), api.ErrConflict},
		{l(open("/f"), write(0, "x")), l(open("/d/a"), write(0, "y")), api.OK},
		{l(create("/d/x")), l(unlink("/d/a")), api.OK},
		{l(create("/d/x")), l(unlink("/d/a"), rmdir("/d")), api.ErrConflict},
		{l(unlink("/d/a"), rmdir("/d")), l(create("/d/x")), api.ErrConflict},
		{l(rename("/d", "/e/d")), l(rename("/e", "/d/e")), api.ErrConflict},
		{l(link("/f", "/h")), l(unlink("/f")), api.ErrConflict},
		{l(link("/f", "/h")), l(link("/d/a", "/i")), api.OK},
	}
}

// set lays what meetings are over.
func set(t *testing.T, m *Manager) {
	t.Helper()
	committed(t, m, mkdir("/d"), mkdir("/e"), create("/d/a"), create("/e/b"), create("/f"), link("/f", "/g"), open("/f"), write(0, "abc"))
}

// tries has a client do what may be errors, too.
func tries(m *Manager, client int, l []api.Op) {
	m.Do(client, begin)
	for _, o := range l {
		m.Do(client, o)
	}
}

// P22.1, P22.4: of two transactions the one that commits behind the other is refused if what it read was written, and only then; those that began later aren't.
func TestMeetings(t *testing.T) {
	for _, c := range meetings() {
		_, m := fresh(t, wide)
		set(t, m)
		tries(m, 0, c.first)
		tries(m, 1, c.second)
		does(t, m, 0, commit)
		if r := m.Do(1, commit); !same(r, api.Result{Err: c.want}) {
			t.Errorf("%v, %v: %+v, not %v", c.first, c.second, r, c.want)
		}
		stands(t, m, 1, false, false)
		tries(m, 1, c.second)
		fails(t, m, 1, commit, api.OK)
	}
}

// P22.4: what was begun behind the commit, or is of one that was aborted, refused or doomed, is no cause.
func TestNoCause(t *testing.T) {
	for _, c := range meetings() {
		_, m := fresh(t, wide)
		set(t, m)
		tries(m, 1, c.second)
		tries(m, 0, c.first)
		does(t, m, 0, abort)
		tries(m, 2, []api.Op{stat("/z")})
		committed(t, m, create("/z"))
		for _, o := range c.first {
			m.Do(2, o)
		}
		fails(t, m, 2, commit, api.ErrConflict)
		tries(m, 3, c.first)
		for i := range 25 {
			m.Do(3, create(fmt.Sprint("/", i)))
		}
		fails(t, m, 3, commit, api.ErrAborted)
		want := api.OK
		for _, o := range c.second {
			if o.Kind == api.OpReaddir && o.Path == "/" {
				want = api.ErrConflict
			}
		}
		fails(t, m, 1, commit, want)
	}
}

// P22.4: no transaction clashes with one of the same client that came ahead of it, nor with itself.
func TestOneBehindTheOther(t *testing.T) {
	for _, c := range meetings() {
		_, m := fresh(t, wide)
		set(t, m)
		// Somebody is in a transaction all the time, so that nothing is forgotten.
		does(t, m, 5, begin)
		for range 2 {
			for client, l := range [][]api.Op{c.first, c.second, append(c.first, c.second...)} {
				tries(m, client, l)
				fails(t, m, client, commit, api.OK)
			}
		}
	}
}

// P22.4: a commit without writes does no act, whatever was read; refused ones don't either.
func TestNoAct(t *testing.T) {
	d, m := fresh(t, small)
	set(t, m)
	for _, l := range [][]api.Op{
		nil, {stat("/"), readdir("/d")}, {open("/f"), read(0, 9)}, {create("/f"), unlink("/x"), mkdir("//")},
		{create("/x"), unlink("/x")}, {rename("/f", "/g")}, {open("/f"), write(0, "")}, {{Kind: 99}},
	} {
		acts, was := d.Acts(), pairs(m.Tree())
		tries(m, 3, l)
		if w := m.View(3).Writes(); len(w) > 0 {
			t.Errorf("%v: %v", l, w)
		}
		fails(t, m, 3, commit, api.OK)
		if d.Acts() != acts || m.Commits() != 1 || fmt.Sprint(pairs(m.Tree())) != fmt.Sprint(was) {
			t.Errorf("%v: %d acts, %d commits, %v", l, d.Acts()-acts, m.Commits(), pairs(m.Tree()))
		}
	}
	tries(m, 1, []api.Op{stat("/f"), create("/y")})
	tries(m, 2, []api.Op{stat("/f")})
	committed(t, m, unlink("/f"))
	changes, acts := pairs(m.Tree()), d.Acts()
	fails(t, m, 1, commit, api.ErrConflict)
	fails(t, m, 2, commit, api.ErrConflict)
	if d.Acts() != acts || m.Commits() != 2 || fmt.Sprint(pairs(m.Tree())) != fmt.Sprint(changes) {
		t.Error(told(m), d.Acts())
	}
}

// P22.1: the order of a commit's answers: ErrAborted ahead of ErrConflict, that ahead of OK without writes.
func TestOrderOfAnswers(t *testing.T) {
	_, m := fresh(t, wide)
	set(t, m)
	tries(m, 0, []api.Op{stat("/x")})
	doom(t, m, 0)
	tries(m, 1, []api.Op{stat("/x")})
	tries(m, 2, []api.Op{stat("/y")})
	committed(t, m, create("/x"))
	fails(t, m, 0, commit, api.ErrAborted)
	fails(t, m, 1, commit, api.ErrConflict)
	fails(t, m, 2, commit, api.OK)
}

// P22.4: each of many commits, far back or just now, is a cause, as long as one that began ahead of it goes on; none ahead of that is.
func TestFarBack(t *testing.T) {
	_, m := fresh(t, wide)
	const n = 40
	path := func(i int) api.Op { return create(fmt.Sprint("/", i)) }
	for i := range n {
		for client := range 3 {
			m.Do(client, begin)
		}
		for j := range n {
			if j == n/2 {
				does(t, m, 3, begin)
			}
			committed(t, m, path(j))
			does(t, m, 4, begin, stat("/"), abort)
		}
		// What a later one saw it didn't read in vain.
		m.Do(0, stat(fmt.Sprint("/", i)))
		m.Do(3, stat(fmt.Sprint("/", i)))
		fails(t, m, 0, commit, api.ErrConflict)
		want := api.OK
		if i >= n/2 {
			want = api.ErrConflict
		}
		fails(t, m, 3, commit, want)
		fails(t, m, 1, commit, api.OK)
		m.Do(2, stat(fmt.Sprint("/", n)))
		fails(t, m, 2, commit, api.OK)
		for j := range n {
			committed(t, m, unlink(fmt.Sprint("/", j)))
		}
	}
}

// P22.1: of a history no more is kept than those can clash with that are in a transaction.
func TestForgotten(t *testing.T) {
	_, m := fresh(t, wide)
	kept := func(want int, commits uint64) {
		t.Helper()
		if n := m.history.Len(); n != want || m.Commits() != commits {
			t.Errorf("%d are kept of %d, not %d of %d", n, m.Commits(), want, commits)
		}
	}
	step := func(i int) { committed(t, m, create(fmt.Sprint("/", i))) }
	step(0)
	kept(0, 1)
	does(t, m, 0, begin)
	step(1)
	kept(1, 2)
	does(t, m, 1, begin)
	step(2)
	step(3)
	kept(3, 4)
	does(t, m, 2, begin)
	does(t, m, 0, abort)
	kept(2, 4)
	does(t, m, 2, create("/x"), commit)
	kept(3, 5)
	fails(t, m, 1, stat("/x"), api.ErrNone)
	fails(t, m, 1, commit, api.ErrConflict)
	kept(0, 5)
	does(t, m, 1, begin)
	doom(t, m, 1)
	step(4)
	kept(1, 6)
	fails(t, m, 1, commit, api.ErrAborted)
	kept(0, 6)
}

package arena_test

import (
	"errors"
	"fmt"
	"math"
	"slices"
	"strings"
	"testing"

	"placket/api"
	"placket/arena"
)

// plain is the chapter's words, told another way than the program's: all that was ever put, at its identity less one, with a mark.
type plain struct {
	room int
	all  []put
}

type put struct {
	x     int
	there bool
}

func (p *plain) live() int {
	n := 0
	for _, e := range p.all {
		if e.there {
			n++
		}
	}
	return n
}

func (p *plain) next() int { return len(p.all) + 1 }

func (p *plain) put(x int) (int, bool) {
	if p.live() == p.room {
		return 0, false
	}
	p.all = append(p.all, put{x, true})
	return len(p.all), true
}

func (p *plain) get(id int) (int, bool) {
	if id < 1 || id > len(p.all) || !p.all[id-1].there {
		return 0, false
	}
	return p.all[id-1].x, true
}

func (p *plain) set(id, x int) bool {
	_, ok := p.get(id)
	if ok {
		p.all[id-1].x = x
	}
	return ok
}

func (p *plain) drop(id int) bool {
	_, ok := p.get(id)
	if ok {
		p.all[id-1].there = false
	}
	return ok
}

func (p *plain) clone() *plain { return &plain{p.room, slices.Clone(p.all)} }

// far are identities that no short run gives, the smallest and the greatest numbers among them.
var far = []int{0, -1, -2, -200, 201, 1 << 20, -1 << 20, math.MinInt32, math.MaxInt32, math.MinInt + 1, math.MinInt, math.MaxInt - 1, math.MaxInt}

// agree holds all that an arena tells against the plain one.
func agree(t *testing.T, when string, a *arena.Arena[int], p *plain) {
	t.Helper()
	if a.Live() != p.live() || a.Next() != p.next() || a.Room() != p.room {
		t.Errorf("%s: Live %d, Next %d, Room %d, not %d, %d, %d", when, a.Live(), a.Next(), a.Room(), p.live(), p.next(), p.room)
	}
	for id := 1; id < p.next()+3; id++ {
		agreeAt(t, when, a, p, id)
	}
	for _, id := range far {
		agreeAt(t, when, a, p, id)
	}
}

func agreeAt(t *testing.T, when string, a *arena.Arena[int], p *plain, id int) {
	t.Helper()
	x, ok := a.Get(id)
	if wantX, wantOk := p.get(id); x != wantX || ok != wantOk {
		t.Errorf("%s: Get(%d): %d, %v, not %d, %v", when, id, x, ok, wantX, wantOk)
	}
}

// is holds an error against a Code: the Code itself, not one that has it within.
func is(err error, c api.Code) bool {
	got, ok := err.(api.Code)
	return ok && got == c
}

func fresh[T any](t *testing.T, room int) *arena.Arena[T] {
	t.Helper()
	a, err := arena.New[T](room)
	if err != nil || a == nil {
		t.Fatalf("New(%d): %v, %v", room, a, err)
	}
	return a
}

func mustPut[T any](t *testing.T, a *arena.Arena[T], x T, want int) {
	t.Helper()
	id, err := a.Put(x)
	if id != want || err != nil {
		t.Errorf("Put(%#v): %d, %v, not %d, no error", x, id, err, want)
	}
}

func mustFail[T any](t *testing.T, a *arena.Arena[T], x T) {
	t.Helper()
	id, err := a.Put(x)
	if id != 0 || !is(err, api.ErrFull) {
		t.Errorf("Put(%#v) where there is no room: %d, %v, not 0, ErrFull", x, id, err)
	}
}

func mustDrop[T any](t *testing.T, a *arena.Arena[T], id int, want bool) {
	t.Helper()
	if got := a.Drop(id); got != want {
		t.Errorf("Drop(%d): %v, not %v", id, got, want)
	}
}

func mustSet[T any](t *testing.T, a *arena.Arena[T], id int, x T, want bool) {
	t.Helper()
	if got := a.Set(id, x); got != want {
		t.Errorf("Set(%d, %#v): %v, not %v", id, x, got, want)
	}
}

func mustGet[T comparable](t *testing.T, a *arena.Arena[T], id int, want T) {
	t.Helper()
	if x, ok := a.Get(id); !ok || x != want {
		t.Errorf("Get(%d): %#v, %v, not %#v, true", id, x, ok, want)
	}
}

func mustMiss[T comparable](t *testing.T, a *arena.Arena[T], id int) {
	t.Helper()
	var zero T
	if x, ok := a.Get(id); ok || x != zero {
		t.Errorf("Get(%d): %#v, %v, not a zero one, false", id, x, ok)
	}
}

func mustTell[T any](t *testing.T, a *arena.Arena[T], live, next, room int) {
	t.Helper()
	if a.Live() != live || a.Next() != next || a.Room() != room {
		t.Errorf("Live %d, Next %d, Room %d, not %d, %d, %d", a.Live(), a.Next(), a.Room(), live, next, room)
	}
}

// full is an arena of room n that has 10, 20, and so on, of the identities 1 to n.
func full(t *testing.T, n int) (*arena.Arena[int], *plain) {
	t.Helper()
	a, p := fresh[int](t, n), &plain{room: n}
	for i := 1; i <= n; i++ {
		mustPut(t, a, 10*i, i)
		p.put(10 * i)
	}
	return a, p
}

// P4.1: a room of 1 to 200, and no other one; then nothing is there.
func TestNew(t *testing.T) {
	for room := -300; room <= 500; room++ {
		tryNew(t, room)
	}
	for _, room := range append([]int{256 + 1, 1<<16 + 1, 1<<31 + 1, 1<<32 + 1, -1<<32 + 1}, far...) {
		tryNew(t, room)
	}
}

func tryNew(t *testing.T, room int) {
	t.Helper()
	a, err := arena.New[string](room)
	if room < 1 || room > 200 {
		if a != nil || !is(err, api.ErrArg) {
			t.Errorf("New(%d): %v, %v, not nil, ErrArg", room, a, err)
		}
		return
	}
	if a == nil || err != nil {
		t.Fatalf("New(%d): %v, %v", room, a, err)
	}
	mustTell(t, a, 0, 1, room)
	for id := -1; id < 3; id++ {
		mustMiss(t, a, id)
		mustSet(t, a, id, "x", false)
		mustDrop(t, a, id, false)
	}
	mustTell(t, a, 0, 1, room)
}

// P4.1: the chapter's example.
func TestExample(t *testing.T) {
	a := fresh[int](t, 1)
	mustPut(t, a, 5, 1)
	mustDrop(t, a, 1, true)
	mustPut(t, a, 6, 2)
	mustMiss(t, a, 1)
	mustGet(t, a, 2, 6)
	mustTell(t, a, 1, 3, 1)
}

// P4.1: identities are 1, 2, 3, and so on, whatever is put; a thing twice is two.
func TestPut(t *testing.T) {
	a := fresh[string](t, 5)
	for i, s := range []string{"a", "b", "", "a", "\xff"} {
		mustTell(t, a, i, i+1, 5)
		mustPut(t, a, s, i+1)
		mustGet(t, a, i+1, s)
	}
	mustTell(t, a, 5, 6, 5)
	for i, s := range []string{"a", "b", "", "a", "\xff"} {
		mustGet(t, a, i+1, s)
	}
}

// P4.1: each room takes just so many; a Put that fails changes nothing, and gives no identity away.
func TestPutFull(t *testing.T) {
	for n := 1; n <= 200; n++ {
		a, p := full(t, n)
		agree(t, "full", a, p)
		for range 3 {
			mustFail(t, a, -1)
		}
		agree(t, "full, behind Puts that fail", a, p)
		for _, id := range []int{n, (n + 1) / 2, 1} {
			if _, there := p.get(id); !there {
				continue
			}
			next := a.Next()
			mustDrop(t, a, id, true)
			p.drop(id)
			agree(t, "room behind a Drop", a, p)
			mustPut(t, a, 7*next, next)
			p.put(7 * next)
			mustFail(t, a, -2)
			agree(t, "full again", a, p)
		}
	}
}

// P4.1: with the room of each place free again, and of all of them at once.
func TestPutBehindDrops(t *testing.T) {
	const n = 6
	for drops := range 1 << n {
		a, p := full(t, n)
		for i := range n {
			if drops>>i&1 == 1 {
				mustDrop(t, a, i+1, true)
				p.drop(i + 1)
			}
		}
		agree(t, fmt.Sprintf("drops %b", drops), a, p)
		for i := range n - p.live() {
			mustPut(t, a, i, n+1+i)
			p.put(i)
			agree(t, fmt.Sprintf("drops %b, then put %d", drops, i+1), a, p)
		}
		mustFail(t, a, 1)
		agree(t, fmt.Sprintf("drops %b, then full", drops), a, p)
	}
}

// P4.1: Get, Set and Drop of what isn't there tell so, and change nothing.
func TestNotThere(t *testing.T) {
	for _, n := range []int{1, 2, 3, 8, 200} {
		a, p := full(t, n)
		never := append([]int{n + 1, n + 2, n + 3, 2 * n, -n}, far...)
		for _, id := range never {
			if id >= 1 && id <= n {
				continue
			}
			mustMiss(t, a, id)
			mustSet(t, a, id, 99, false)
			mustDrop(t, a, id, false)
			agree(t, fmt.Sprintf("room %d, behind %d, that was never given", n, id), a, p)
		}
		for id := 1; id <= n; id++ {
			mustDrop(t, a, id, true)
			p.drop(id)
			mustMiss(t, a, id)
			mustSet(t, a, id, 99, false)
			mustDrop(t, a, id, false)
			mustDrop(t, a, id, false)
			if n <= 8 || id%50 == 0 {
				agree(t, fmt.Sprintf("room %d, behind %d, that was dropped twice", n, id), a, p)
			}
		}
		mustTell(t, a, 0, n+1, n)
	}
}

// P4.1: an identity that is yet to come isn't there, and nothing that is done with it counts once it is given.
func TestAhead(t *testing.T) {
	a := fresh[int](t, 3)
	for id := 1; id <= 3; id++ {
		mustSet(t, a, a.Next(), 99, false)
		mustDrop(t, a, a.Next(), false)
		mustMiss(t, a, a.Next())
		mustPut(t, a, id*id, id)
		mustGet(t, a, id, id*id)
	}
}

// P4.1: Set changes the one, and no other; it gives no identity, and needs no room.
func TestSet(t *testing.T) {
	for n := 1; n <= 9; n++ {
		for id := 1; id <= n; id++ {
			a, p := full(t, n)
			for _, x := range []int{7, 7, 0, -1, 10 * id} {
				mustSet(t, a, id, x, true)
				p.set(id, x)
				agree(t, fmt.Sprintf("Set(%d, %d) of %d", id, x, n), a, p)
			}
			mustSet(t, a, id, 3, true)
			mustDrop(t, a, id, true)
			mustSet(t, a, id, 4, false)
			p.drop(id)
			agree(t, fmt.Sprintf("Set and Drop of %d of %d", id, n), a, p)
		}
	}
}

// P4.1: Get tells a copy, as it stands: what is done with it isn't done with the one there.
func TestGetIsACopy(t *testing.T) {
	a := fresh[[3]int](t, 2)
	x := [3]int{1, 2, 3}
	mustPut(t, a, x, 1)
	x[0] = 9
	mustGet(t, a, 1, [3]int{1, 2, 3})
	got, _ := a.Get(1)
	got[1] = 9
	mustGet(t, a, 1, [3]int{1, 2, 3})
	y := [3]int{4, 5, 6}
	mustSet(t, a, 1, y, true)
	y[2] = 9
	mustGet(t, a, 1, [3]int{4, 5, 6})
}

// orders goes through all orders of 1 to n.
func orders(n int, visit func([]int)) {
	var rest func([]int)
	rest = func(l []int) {
		if len(l) == n {
			visit(l)
			return
		}
		for id := 1; id <= n; id++ {
			if !slices.Contains(l, id) {
				rest(append(slices.Clone(l), id))
			}
		}
	}
	rest(nil)
}

// P4.1: dropped in each order, the others stay as they are.
func TestDropOrders(t *testing.T) {
	for n := 1; n <= 5; n++ {
		orders(n, func(l []int) {
			a, p := full(t, n)
			for i, id := range l {
				mustDrop(t, a, id, true)
				p.drop(id)
				agree(t, fmt.Sprintf("dropped %v", l[:i+1]), a, p)
			}
			mustPut(t, a, 1, n+1)
			p.put(1)
			agree(t, fmt.Sprintf("dropped %v, then put", l), a, p)
		})
	}
}

// several does with things of one type what chapters above will do: x and y are two that differ, neither of them zero.
func several[T comparable](t *testing.T, x, y T) {
	t.Helper()
	var zero T
	a := fresh[T](t, 3)
	mustPut(t, a, x, 1)
	mustPut(t, a, zero, 2)
	mustPut(t, a, y, 3)
	mustFail(t, a, x)
	mustTell(t, a, 3, 4, 3)
	mustGet(t, a, 1, x)
	mustGet(t, a, 2, zero)
	mustGet(t, a, 3, y)
	mustSet(t, a, 2, x, true)
	mustSet(t, a, 1, zero, true)
	mustGet(t, a, 1, zero)
	mustGet(t, a, 2, x)
	mustDrop(t, a, 2, true)
	mustMiss(t, a, 2)
	mustMiss(t, a, 0)
	mustMiss(t, a, 4)
	c := a.Clone()
	mustPut(t, a, x, 4)
	mustPut(t, c, y, 4)
	mustGet(t, a, 4, x)
	mustGet(t, c, 4, y)
	mustGet(t, c, 1, zero)
	mustTell(t, c, 3, 5, 3)
}

type pair struct {
	n int
	s string
}

type named int

// P4.1: things of any type; a zero one is there as any other one is.
func TestTypes(t *testing.T) {
	several(t, 1, 2)
	several(t, "a", "b")
	several(t, pair{1, "a"}, pair{1, "b"})
	several(t, &pair{1, "a"}, &pair{1, "a"})
	several(t, [2]byte{0, 1}, [2]byte{1, 0})
	several(t, named(1), named(-1))
	several(t, 1.5, math.Inf(1))
	several[any](t, 1, "1")
	several[any](t, api.Attr{Name: "a"}, named(1))
	several[error](t, api.ErrArg, errors.New("other"))
	several(t, make(chan int), make(chan int))
	several(t, complex(1, 2), complex(2, 1))
	several(t, uint64(math.MaxUint64), uint64(1))
	several(t, api.Code(1), api.Code(13))
	several(t, api.Ins{Op: 1}, api.Ins{Op: 2})
}

// P4.1: things that can't be held against each other, and nil ones: what is there is told by the bool.
func TestTypesNotComparable(t *testing.T) {
	lists := fresh[[]int](t, 2)
	mustPut(t, lists, nil, 1)
	mustPut(t, lists, []int{}, 2)
	for id, isNil := range map[int]bool{1: true, 2: false} {
		if l, ok := lists.Get(id); !ok || (l == nil) != isNil || len(l) != 0 {
			t.Errorf("Get(%d): %v, %v", id, l, ok)
		}
	}
	if l, ok := lists.Get(3); ok || l != nil {
		t.Errorf("Get(3): %v, %v", l, ok)
	}
	calls := fresh[func() int](t, 1)
	mustPut(t, calls, func() int { return 5 }, 1)
	if f, ok := calls.Get(1); !ok || f() != 5 {
		t.Errorf("Get(1): %v", ok)
	}
	mustSet(t, calls, 1, nil, true)
	if f, ok := calls.Get(1); !ok || f != nil {
		t.Errorf("Get(1) of nil: %v", ok)
	}
	nothing := fresh[struct{}](t, 2)
	mustPut(t, nothing, struct{}{}, 1)
	mustPut(t, nothing, struct{}{}, 2)
	mustFail(t, nothing, struct{}{})
	mustDrop(t, nothing, 1, true)
	mustMiss(t, nothing, 1)
	mustGet(t, nothing, 2, struct{}{})
	mustTell(t, nothing, 1, 3, 2)
	nodes := fresh[api.Node](t, 1)
	mustPut(t, nodes, api.Node{Id: 1, Tag: "p", Kids: []int{2, 3}}, 1)
	if n, ok := nodes.Get(1); !ok || n.Id != 1 || n.Tag != "p" || !slices.Equal(n.Kids, []int{2, 3}) {
		t.Errorf("Get(1): %v, %v", n, ok)
	}
	if n, ok := nodes.Get(2); ok || n.Id != 0 || n.Tag != "" || n.Kids != nil {
		t.Errorf("Get(2): %v, %v", n, ok)
	}
}

// P4.1: an arena of an arena is one, too.
func TestArenaOfArenas(t *testing.T) {
	outer := fresh[*arena.Arena[int]](t, 2)
	mustPut(t, outer, fresh[int](t, 1), 1)
	inner, ok := outer.Get(1)
	if !ok {
		t.Fatal("Get(1): false")
	}
	mustPut(t, inner, 5, 1)
	mustFail(t, inner, 6)
	mustTell(t, outer, 1, 2, 2)
	again, _ := outer.Get(1)
	mustGet(t, again, 1, 5)
}

// P4.1: each arena counts for itself, whatever its type is.
func TestApart(t *testing.T) {
	a, b, c := fresh[int](t, 3), fresh[int](t, 3), fresh[string](t, 3)
	mustPut(t, a, 1, 1)
	mustPut(t, a, 2, 2)
	mustPut(t, b, 3, 1)
	mustPut(t, c, "x", 1)
	mustDrop(t, a, 1, true)
	mustGet(t, b, 1, 3)
	mustGet(t, c, 1, "x")
	mustPut(t, b, 4, 2)
	mustTell(t, a, 1, 3, 3)
	mustTell(t, b, 2, 3, 3)
	mustTell(t, c, 1, 2, 3)
}

// P4.2: however often a place is used again, identities rise by one, and none that was dropped is there again.
func TestReuse(t *testing.T) {
	for _, room := range []int{1, 2, 3, 7, 200} {
		a := fresh[int](t, room)
		const times = 3000
		for id := 1; id <= times; id++ {
			mustPut(t, a, -id, id)
			mustGet(t, a, id, -id)
			// The last one that was put, the first one, and one between, so that each place gets free.
			if a.Live() == room {
				mustFail(t, a, 0)
				drop := id - [3]int{0, room - 1, room / 2}[id%3]
				if x, there := a.Get(drop); there {
					mustDrop(t, a, drop, true)
					mustMiss(t, a, drop)
					mustSet(t, a, drop, x, false)
				} else {
					dropFirst(t, a)
				}
			}
		}
		if a.Next() != times+1 || a.Live() > room || a.Room() != room {
			t.Errorf("room %d: Live %d, Next %d, Room %d", room, a.Live(), a.Next(), a.Room())
		}
		there := 0
		for id := 1; id <= times; id++ {
			if x, ok := a.Get(id); ok {
				there++
				mustGet(t, a, id, -id)
			} else if x != 0 {
				t.Errorf("room %d: Get(%d): %d, false", room, id, x)
			}
		}
		if there != a.Live() {
			t.Errorf("room %d: %d are there, Live %d", room, there, a.Live())
		}
	}
}

func dropFirst(t *testing.T, a *arena.Arena[int]) {
	t.Helper()
	for id := 1; id < a.Next(); id++ {
		if a.Drop(id) {
			return
		}
	}
	t.Error("nothing is there to be dropped")
}

// P4.2: once dropped, never there again, at any later time.
func TestDroppedForGood(t *testing.T) {
	a := fresh[int](t, 2)
	mustPut(t, a, 0, 1)
	for id := 2; id <= 300; id++ {
		mustPut(t, a, id, id)
		mustDrop(t, a, id, true)
		for old := 2; old <= id; old++ {
			mustMiss(t, a, old)
			mustDrop(t, a, old, false)
			mustSet(t, a, old, 1, false)
		}
		mustGet(t, a, 1, 0)
		mustTell(t, a, 1, id+1, 2)
	}
}

// P4.1: another one, of the same things and identities, of an empty one, a full one, and all between.
func TestClone(t *testing.T) {
	for n := 1; n <= 5; n++ {
		for drops := range 1 << n {
			a, p := full(t, n)
			for i := range n {
				if drops>>i&1 == 1 {
					mustDrop(t, a, i+1, true)
					p.drop(i + 1)
				}
			}
			when := fmt.Sprintf("room %d, drops %b", n, drops)
			c := a.Clone()
			agree(t, when+": the clone", c, p)
			agree(t, when+": the one that was cloned", a, p)
			agree(t, when+": a clone's clone", c.Clone(), p)
			touch(t, when+": what is done to the clone", c, p.clone(), a, p)
			touch(t, when+": what is done to the one that was cloned", a, p, a.Clone(), p.clone())
		}
	}
	never := fresh[int](t, 200).Clone()
	mustTell(t, never, 0, 1, 200)
	mustPut(t, never, 1, 1)
}

// touch does to one arena all that may be done, and holds the other one against what it was, each time.
func touch(t *testing.T, when string, a *arena.Arena[int], p *plain, other *arena.Arena[int], was *plain) {
	t.Helper()
	was = was.clone()
	hold := func(what string) {
		t.Helper()
		agree(t, when+", "+what, a, p)
		agree(t, when+", "+what+", the other one", other, was)
	}
	for id := 1; id <= p.room; id++ {
		mustSet(t, a, id, 77, p.set(id, 77))
		hold("Set")
	}
	for id := 1; id <= p.room; id++ {
		for range 2 {
			if want, ok := p.put(5); ok {
				mustPut(t, a, 5, want)
			} else {
				mustFail(t, a, 5)
			}
			hold("Put")
		}
		mustDrop(t, a, id, p.drop(id))
		hold("Drop")
	}
}

// P4.1: both give the same identities from there on, each for itself.
func TestCloneGoesOnAlike(t *testing.T) {
	a, _ := full(t, 3)
	mustDrop(t, a, 3, true)
	mustDrop(t, a, 2, true)
	c := a.Clone()
	d := c.Clone()
	for i, one := range []*arena.Arena[int]{a, c, d} {
		mustPut(t, one, 100+i, 4)
		mustPut(t, one, 200+i, 5)
		mustFail(t, one, 0)
	}
	for i, one := range []*arena.Arena[int]{a, c, d} {
		mustGet(t, one, 1, 10)
		mustMiss(t, one, 2)
		mustMiss(t, one, 3)
		mustGet(t, one, 4, 100+i)
		mustGet(t, one, 5, 200+i)
		mustTell(t, one, 3, 6, 3)
	}
}

// P4.1: a clone's things are copied as they stand: what they point at is one.
func TestCloneAsTheyStand(t *testing.T) {
	a := fresh[*pair](t, 2)
	mustPut(t, a, &pair{1, "a"}, 1)
	c := a.Clone()
	x, _ := a.Get(1)
	mustGet(t, c, 1, x)
	x.n = 2
	if y, _ := c.Get(1); y.n != 2 {
		t.Errorf("the clone's: %v", y)
	}
	lists := fresh[[]int](t, 1)
	mustPut(t, lists, []int{1, 2}, 1)
	l, _ := lists.Clone().Get(1)
	l[0] = 9
	if l, _ := lists.Get(1); !slices.Equal(l, []int{9, 2}) {
		t.Errorf("the list: %v", l)
	}
}

// both are an arena and the plain one, side by side.
type both struct {
	a *arena.Arena[int]
	p *plain
}

// do does one call on each, of a sort and an identity, and tells whether they answered the same.
func (b *both) do(sort, id, x int) bool {
	switch sort {
	case 0:
		got, err := b.a.Put(x)
		want, ok := b.p.put(x)
		return got == want && (ok && err == nil || !ok && is(err, api.ErrFull))
	case 1:
		return b.a.Drop(id) == b.p.drop(id)
	case 2:
		return b.a.Set(id, x) == b.p.set(id, x)
	case 3:
		// Goes on with the clone, and leaves in the other one what must not be seen.
		old := b.a
		b.a = old.Clone()
		old.Set(id, -99)
		old.Put(-99)
	}
	return true
}

// P4.1, P4.2: every short run of calls, on small arenas, answers as the chapter's words do.
func TestShortRuns(t *testing.T) {
	type call struct{ sort, id int }
	calls := []call{{0, 0}, {1, 1}, {1, 2}, {1, 3}, {2, 1}, {2, 2}, {3, 1}}
	const long = 6
	runs := 1
	for range long {
		runs *= len(calls)
	}
	for room := 1; room <= 2; room++ {
		for run := range runs {
			b := both{fresh[int](t, room), &plain{room: room}}
			for i, left := 0, run; i < long; i, left = i+1, left/len(calls) {
				c := calls[left%len(calls)]
				if !b.do(c.sort, c.id, i+1) {
					t.Fatalf("room %d, run %d: call %d (%v) answers otherwise", room, run, i, c)
				}
			}
			agree(t, fmt.Sprintf("room %d, run %d", room, run), b.a, b.p)
			if t.Failed() {
				return
			}
		}
	}
}

// P1: arenas that differ share nothing: each may be used by a goroutine of its own (go test -race sees it).
func TestApartAtOnce(t *testing.T) {
	a, _ := full(t, 50)
	ends := make(chan int)
	for range 4 {
		c := a.Clone()
		go func() {
			for id := 1; id <= 1000; id++ {
				c.Drop(id)
				c.Put(id)
			}
			ends <- c.Next()
		}()
	}
	for range 4 {
		if next := <-ends; next != 1051 {
			t.Errorf("Next %d, not 1051", next)
		}
	}
	mustTell(t, a, 50, 51, 50)
}

// P1: a goal for go test -fuzz; its seeds run in every test. The first byte is the room, each two behind it are a call.
func FuzzArena(f *testing.F) {
	for _, s := range []string{"", "\x00", "\x01", "\xc8", "\xc9", "\xff", "\x01\x00\x00\x01\x01\x00\x00", "\x03" + strings.Repeat("\x00\x05", 4) + "\x01\x02\x02\x02\x03\x01\x00\x07", "\xc8" + strings.Repeat("\x00\x05", 201) + strings.Repeat("\x01\xc8\x00\x01", 3)} {
		f.Add([]byte(s))
	}
	f.Fuzz(func(t *testing.T, in []byte) {
		if len(in) == 0 {
			return
		}
		room := int(in[0])
		a, err := arena.New[int](room)
		if room < 1 || room > 200 {
			if a != nil || !is(err, api.ErrArg) {
				t.Errorf("New(%d): %v, %v", room, a, err)
			}
			return
		}
		if err != nil {
			t.Fatalf("New(%d): %v", room, err)
		}
		b := both{a, &plain{room: room}}
		for i := 1; i+1 < len(in); i += 2 {
			if !b.do(int(in[i]%4), int(in[i+1])-4, i) {
				t.Fatalf("call %d (%d, %d) answers otherwise", i/2, in[i]%4, int(in[i+1])-4)
			}
		}
		agree(t, "at the end", b.a, b.p)
	})
}

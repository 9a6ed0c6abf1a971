package bus_test

import (
	"fmt"
	"math"
	"slices"
	"strconv"
	"strings"
	"testing"
	"unsafe"

	"chandler/api"
	"chandler/bus"
)

// latest is the greatest next number that a bus may be restored with.
const latest = 1 << 60

var (
	// before and behind are the places around those of a bus with one letter.
	before = []int{math.MinInt, -api.MaxLetters, -2, -1}
	behind = []int{1, 2, api.MaxLetters, api.MaxLetters + 1, math.MaxInt}
)

// letter is one whose fields are all unlike one another.
func letter(id int, verb string) bus.Letter {
	return bus.Letter{ID: id, To: 11, Order: -12, Step: 13, Try: 14, Kind: 15, Code: 16, Verb: verb}
}

// letters are ones with these numbers.
func letters(ids ...int) []bus.Letter {
	var list []bus.Letter
	for _, id := range ids {
		list = append(list, letter(id, "v"+strconv.Itoa(id)))
	}
	return list
}

// upTo are the numbers from one on, up to another, without it.
func upTo(from, to int) []int {
	var ids []int
	for id := from; id < to; id++ {
		ids = append(ids, id)
	}
	return ids
}

// wantBus asks for all that a bus tells, more than once, as telling is to change nothing.
func wantBus(t *testing.T, b *bus.Bus, next int, want []bus.Letter) {
	t.Helper()
	for range 2 {
		if got := b.List(); !slices.Equal(got, want) {
			t.Fatalf("List() = %d letters, %s, want %d, %s", len(got), head(got), len(want), head(want))
		}
		if b.Len() != len(want) || b.Next() != next {
			t.Fatalf("Len() = %d, Next() = %d, want %d, %d", b.Len(), b.Next(), len(want), next)
		}
	}
}

func head(list []bus.Letter) string { return brief(list[:min(len(list), 8)]) }

// brief is what can be read of letters whose texts are of any bytes and length.
func brief(v any) string { return fmt.Sprintf("%.800q", fmt.Sprintf("%+v", v)) }

func restored(t *testing.T, next int, list ...bus.Letter) *bus.Bus {
	t.Helper()
	b, e := bus.Restore(next, list...)
	if b == nil || e != api.OK {
		t.Fatalf("Restore(%d, %d letters) = %v, %d, want a bus", next, len(list), b, e)
	}
	wantBus(t, b, next, list)
	return b
}

func wantNotRestored(t *testing.T, next int, list ...bus.Letter) {
	t.Helper()
	if b, e := bus.Restore(next, list...); b != nil || e != api.ErrArg {
		t.Errorf("Restore(%d, %d letters, %s) = %v, %d, want nil, %d", next, len(list), head(list), b, e, api.ErrArg)
	}
}

func wantSend(t *testing.T, b *bus.Bus, l bus.Letter, number int, want api.Errno) {
	t.Helper()
	if n, e := b.Send(l); n != number || e != want {
		t.Errorf("Send(%s) = %d, %d, want %d, %d", brief(l), n, e, number, want)
	}
}

func wantDouble(t *testing.T, b *bus.Bus, at, number int, want api.Errno) {
	t.Helper()
	if n, e := b.Double(at); n != number || e != want {
		t.Errorf("Double(%d) = %d, %d, want %d, %d", at, n, e, number, want)
	}
}

func wantTake(t *testing.T, b *bus.Bus, at int, letter bus.Letter, want api.Errno) {
	t.Helper()
	if l, e := b.Take(at); l != letter || e != want {
		t.Errorf("Take(%d) = %s, %d, want %s, %d", at, brief(l), e, brief(letter), want)
	}
}

// TestExample holds the chapter's example.
func TestExample(t *testing.T) {
	b := bus.New()
	wantSend(t, b, bus.Letter{Verb: "a"}, 1, api.OK)
	wantSend(t, b, bus.Letter{Verb: "b"}, 2, api.OK)
	wantDouble(t, b, 0, 3, api.OK)
	wantBus(t, b, 4, []bus.Letter{{ID: 1, Verb: "a"}, {ID: 2, Verb: "b"}, {ID: 3, Verb: "a"}})
	wantTake(t, b, 1, bus.Letter{ID: 2, Verb: "b"}, api.OK)
	wantTake(t, b, 1, bus.Letter{ID: 3, Verb: "a"}, api.OK)
	wantBus(t, b, 4, []bus.Letter{{ID: 1, Verb: "a"}})
}

// TestNew holds P7.1 of a new bus, and P7.2 and P7.3 of one.
func TestNew(t *testing.T) {
	b := bus.New()
	wantBus(t, b, 1, nil)
	for _, at := range append([]int{0}, slices.Concat(before, behind)...) {
		wantTake(t, b, at, bus.Letter{}, api.ErrNone)
		wantDouble(t, b, at, 0, api.ErrNone)
	}
	wantBus(t, b, 1, nil)
	wantSend(t, b, letter(0, "v"), 1, api.OK)
	wantBus(t, b, 2, []bus.Letter{letter(1, "v")})
	wantTake(t, b, 0, letter(1, "v"), api.OK)
	wantBus(t, b, 2, nil)
	wantSend(t, b, letter(0, "w"), 2, api.OK)
	wantBus(t, b, 3, []bus.Letter{letter(2, "w")})
}

// TestRestore holds P7.1 of lists that are a bus', and that what follows begins with the next number.
func TestRestore(t *testing.T) {
	for _, c := range []struct {
		next int
		list []bus.Letter
	}{
		{1, nil}, {1, []bus.Letter{}}, {1, letters(1, 2)[:0]}, {2, nil}, {77, nil}, {latest - 1, nil}, {latest, nil},
		{2, letters(1)}, {3, letters(1)}, {3, letters(2)}, {latest, letters(1)}, {latest, letters(latest - 1)}, {latest - 1, letters(latest - 2)},
		{3, letters(1, 2)}, {9, letters(1, 8)}, {latest, letters(1, latest-1)}, {latest, letters(latest-2, latest-1)}, {100, letters(5, 6, 50, 98)},
		{api.MaxLetters, letters(upTo(1, api.MaxLetters)...)},
		{api.MaxLetters + 1, letters(upTo(1, api.MaxLetters+1)...)},
		{latest, letters(upTo(latest-api.MaxLetters, latest)...)},
	} {
		b := restored(t, c.next, c.list...)
		list, next := c.list, c.next
		if len(list) == api.MaxLetters {
			wantSend(t, b, letter(0, "new"), 0, api.ErrMany)
		} else {
			wantSend(t, b, letter(0, "new"), next, api.OK)
			list, next = append(slices.Clone(list), letter(next, "new")), next+1
		}
		wantBus(t, b, next, list)
	}
}

// TestRestoreNext holds P7.1 of next numbers out of their range, whatever the list.
func TestRestoreNext(t *testing.T) {
	for _, next := range []int{math.MinInt, -latest, -2, -1, 0, latest + 1, latest + 2, 1 << 61, math.MaxInt} {
		for _, list := range [][]bus.Letter{nil, {}, letters(1), letters(next - 1), letters(-2), letters(1, latest-1), letters(latest), letters(upTo(1, api.MaxLetters+2)...)} {
			wantNotRestored(t, next, list...)
		}
	}
}

// TestRestoreMany holds P7.1 of more than MaxLetters letters.
func TestRestoreMany(t *testing.T) {
	for _, more := range []int{1, 2, api.MaxLetters} {
		ids := upTo(1, api.MaxLetters+more+1)
		for _, next := range []int{len(ids) + 1, len(ids) + 2, latest} {
			wantNotRestored(t, next, letters(ids...)...)
		}
	}
}

// TestRestoreNumbers holds P7.1 of numbers that no bus gave so.
func TestRestoreNumbers(t *testing.T) {
	for _, c := range []struct {
		next int
		ids  []int
	}{
		{1, []int{1}}, {1, []int{0}}, {9, []int{0}}, {9, []int{-1}}, {9, []int{math.MinInt}}, {9, []int{0, 1}}, {9, []int{-1, 1, 2}},
		{9, []int{9}}, {9, []int{10}}, {9, []int{math.MaxInt}}, {9, []int{1, 9}}, {9, []int{1, 2, 10}}, {latest, []int{latest}}, {latest, []int{1, latest + 1}},
		{9, []int{1, 1}}, {9, []int{8, 8}}, {9, []int{1, 2, 2}}, {9, []int{1, 1, 2}}, {9, []int{2, 1}}, {9, []int{1, 3, 2}}, {9, []int{3, 1, 2}}, {9, []int{1, 9, 2}}, {9, []int{1, 0, 2}},
		{9, []int{8, 7, 6}}, {9, []int{1, 2, 3, 4, 4}}, {9, []int{1, 2, 3, 4, math.MinInt}},
	} {
		wantNotRestored(t, c.next, letters(c.ids...)...)
	}
	for _, last := range []int{math.MinInt, 0, api.MaxLetters - 2, api.MaxLetters - 1, api.MaxLetters + 1, math.MaxInt} {
		ids := upTo(1, api.MaxLetters+1)
		ids[len(ids)-1] = last
		wantNotRestored(t, api.MaxLetters+1, letters(ids...)...)
	}
}

// TestSend holds P7.2 of letters of all kinds: a letter's own number counts for nothing, and no other field is looked at.
func TestSend(t *testing.T) {
	b := bus.New()
	var list []bus.Letter
	send := func(l bus.Letter) {
		want := len(list) + 1
		wantSend(t, b, l, want, api.OK)
		l.ID = want
		list = append(list, l)
		wantBus(t, b, want+1, list)
	}
	for _, n := range []int{math.MinInt, -1, 0, 1, 2, 7, latest, math.MaxInt} {
		send(bus.Letter{ID: n})
		send(bus.Letter{To: n})
		send(bus.Letter{Order: n})
		send(bus.Letter{Step: n})
		send(bus.Letter{Try: n})
		send(bus.Letter{Kind: n})
		send(bus.Letter{Code: n})
		send(bus.Letter{ID: n, To: n, Order: n, Step: n, Try: n, Kind: n, Code: n, Verb: "all"})
	}
	for _, verb := range []string{"", "credit.hold", "\x00", "a\x00b", "\xff\xfe", "no verb at all", strings.Repeat("x", 1<<20)} {
		send(letter(3, verb))
		send(letter(3, verb)) // the same once more is a letter of its own
	}
}

// TestDouble holds P7.2 of each place, of the letter and what was doubled of it, and that the older ones stay as they are.
func TestDouble(t *testing.T) {
	for count := 1; count <= 5; count++ {
		for at := range count {
			list := letters(upTo(10, 10+count)...)
			b := restored(t, 20, list...)
			wantDouble(t, b, at, 20, api.OK)
			list = append(list, letter(20, list[at].Verb))
			wantBus(t, b, 21, list)
			wantDouble(t, b, count, 21, api.OK)
			list = append(list, letter(21, list[at].Verb))
			wantBus(t, b, 22, list)
			// Each of the three goes by itself.
			wantTake(t, b, count, list[count], api.OK)
			wantTake(t, b, at, list[at], api.OK)
			wantBus(t, b, 22, slices.Delete(slices.Delete(list, count, count+1), at, at+1))
		}
	}
}

// TestTake holds P7.3 of each place: the letter that is taken, and those that move up.
func TestTake(t *testing.T) {
	for count := 1; count <= 5; count++ {
		for at := range count {
			list := letters(upTo(10, 10+count)...)
			b := restored(t, 20, list...)
			wantTake(t, b, at, list[at], api.OK)
			list = slices.Delete(list, at, at+1)
			wantBus(t, b, 20, list)
			wantTake(t, b, count-1, bus.Letter{}, api.ErrNone)
			wantDouble(t, b, count-1, 0, api.ErrNone)
			wantSend(t, b, letter(0, "new"), 20, api.OK)
			list = append(list, letter(20, "new"))
			wantBus(t, b, 21, list)
			for i, l := range list {
				wantTake(t, b, 0, l, api.OK)
				wantBus(t, b, 21, list[i+1:])
			}
			wantTake(t, b, 0, bus.Letter{}, api.ErrNone)
			wantBus(t, b, 21, nil)
		}
	}
}

// TestNowhere holds P7.2 and P7.3 of places at which there is no letter, and that nothing changes.
func TestNowhere(t *testing.T) {
	for _, list := range [][]bus.Letter{letters(3), letters(3, 5), letters(upTo(1, 100)...)} {
		b := restored(t, 200, list...)
		places := slices.Concat(before, []int{len(list), len(list) + 1, len(list) + 7, 3000}, behind[2:], []int{200})
		for _, at := range places {
			wantTake(t, b, at, bus.Letter{}, api.ErrNone)
			wantDouble(t, b, at, 0, api.ErrNone)
		}
		wantBus(t, b, 200, list)
		wantDouble(t, b, len(list)-1, 200, api.OK)
		wantTake(t, b, len(list), letter(200, list[len(list)-1].Verb), api.OK)
		wantTake(t, b, len(list)-1, list[len(list)-1], api.OK)
		wantBus(t, b, 201, list[:len(list)-1])
	}
}

// TestFull holds P7.2 of a bus that is full, and of one that has room again behind a Take.
func TestFull(t *testing.T) {
	b := bus.New()
	var list []bus.Letter
	for i := range api.MaxLetters {
		verb := strconv.Itoa(i)
		wantSend(t, b, letter(0, verb), i+1, api.OK)
		list = append(list, letter(i+1, verb))
	}
	next := api.MaxLetters + 1
	for _, at := range []int{0, api.MaxLetters / 2, api.MaxLetters - 1, api.MaxLetters - 1} {
		wantBus(t, b, next, list)
		wantSend(t, b, letter(0, "more"), 0, api.ErrMany)
		for place := range api.MaxLetters {
			wantDouble(t, b, place, 0, api.ErrMany)
		}
		// A place at which there is none is told of first.
		for _, nowhere := range append([]int{api.MaxLetters, api.MaxLetters + 1, math.MaxInt}, before...) {
			wantDouble(t, b, nowhere, 0, api.ErrNone)
			wantTake(t, b, nowhere, bus.Letter{}, api.ErrNone)
		}
		wantBus(t, b, next, list)

		wantTake(t, b, at, list[at], api.OK)
		list = slices.Delete(list, at, at+1)
		wantBus(t, b, next, list)
		wantDouble(t, b, at/2, next, api.OK)
		list = append(list, letter(next, list[at/2].Verb))
		next++
		wantSend(t, b, letter(0, "more"), 0, api.ErrMany)
		wantTake(t, b, at, list[at], api.OK)
		list = slices.Delete(list, at, at+1)
		wantSend(t, b, letter(0, "more"), next, api.OK)
		list = append(list, letter(next, "more"))
		next++
	}
	wantBus(t, b, next, list)
	restored(t, next, list...)
}

// TestNextGoesOn holds P7.2 and P7.3 of next numbers from 2^60 on, for the limit is Restore's alone.
func TestNextGoesOn(t *testing.T) {
	b := restored(t, latest)
	wantSend(t, b, letter(0, "v"), latest, api.OK)
	wantDouble(t, b, 0, latest+1, api.OK)
	list := []bus.Letter{letter(latest, "v"), letter(latest+1, "v")}
	wantBus(t, b, latest+2, list)
	wantNotRestored(t, b.Next(), list...)
	wantTake(t, b, 1, list[1], api.OK)
	wantTake(t, b, 0, list[0], api.OK)
	wantBus(t, b, latest+2, nil)
}

// TestNil holds P1, P7.2 and P7.3 of a nil bus.
func TestNil(t *testing.T) {
	var none *bus.Bus
	for _, at := range append([]int{0}, slices.Concat(before, behind)...) {
		wantTake(t, none, at, bus.Letter{}, api.ErrNil)
		wantDouble(t, none, at, 0, api.ErrNil)
	}
	for _, l := range append(letters(math.MinInt, -1, 0, 1, math.MaxInt), bus.Letter{}) {
		wantSend(t, none, l, 0, api.ErrNil)
	}
	wantBus(t, none, 0, nil)
}

// TestListsAreNew holds that writing into a list that was answered, also behind its length, changes no bus and no other list.
func TestListsAreNew(t *testing.T) {
	list := letters(1, 3, 5, 6)
	b := restored(t, 9, list...)
	for range 3 {
		one, two := b.List(), b.List()
		for i := range one[:cap(one)] {
			one[:cap(one)][i] = letter(-1, "overwritten")
		}
		if !slices.Equal(two, list) {
			t.Errorf("two lists share their memory: %s", brief(two))
		}
		wantBus(t, b, 9+len(list)-4, list)
		_ = append(two, letter(-2, "appended"))
		_ = append(two[:1], letter(-3, "appended"))
		wantBus(t, b, 9+len(list)-4, list)
		wantDouble(t, b, 1, 9+len(list)-4, api.OK)
		list = append(list, letter(9+len(list)-4, "v3"))
		wantBus(t, b, 9+len(list)-4, list)
	}
	kept := b.List()
	before := slices.Clone(kept)
	for range 3 {
		b.Take(0)
		b.Send(letter(0, "new"))
	}
	if !slices.Equal(kept, before) {
		t.Errorf("a list that was answered changed with its bus: %s, want %s", brief(kept), brief(before))
	}
}

// TestKeepsNoList holds that a list that is handed in is neither changed nor kept, nor what lies behind it.
func TestKeepsNoList(t *testing.T) {
	whole := letters(1, 2, 3, 4, 5, 6)
	handed := slices.Clone(whole)
	b := restored(t, 9, handed[:3]...)
	wantTake(t, b, 0, whole[0], api.OK)
	wantTake(t, b, 1, whole[2], api.OK)
	wantSend(t, b, letter(0, "new"), 9, api.OK)
	wantDouble(t, b, 0, 10, api.OK)
	wantDouble(t, b, 0, 11, api.OK)
	if !slices.Equal(handed, whole) {
		t.Errorf("a list that was handed in was changed: %s, want %s", brief(handed), brief(whole))
	}
	list := []bus.Letter{whole[1], letter(9, "new"), letter(10, "v2"), letter(11, "v2")}
	for i := range handed {
		handed[i] = letter(-1, "overwritten")
	}
	wantBus(t, b, 12, list)
	bad := letters(1, 2, 2)
	badBefore := slices.Clone(bad)
	wantNotRestored(t, 9, bad...)
	if !slices.Equal(bad, badBefore) {
		t.Errorf("a list that was refused was changed: %s", brief(bad))
	}
}

// TestTextsAreNew holds that no text that is answered shares its memory with one that was handed in, or with another answer.
func TestTextsAreNew(t *testing.T) {
	met := map[*byte]string{}
	meet := func(from string, list ...bus.Letter) {
		t.Helper()
		for _, l := range list {
			if was, ok := met[unsafe.StringData(l.Verb)]; ok {
				t.Errorf("the text of letter %d of %s shares its memory with one of %s", l.ID, from, was)
			}
			met[unsafe.StringData(l.Verb)] = from
		}
	}
	handed := append(letters(1, 2), letter(3, "sent"))
	meet("what was handed in", handed...)
	b := restored(t, 4, handed[:2]...)
	wantSend(t, b, handed[2], 4, api.OK)
	wantDouble(t, b, 0, 5, api.OK)
	wantDouble(t, b, 3, 6, api.OK)
	meet("a list", b.List()...)
	meet("another list", b.List()...)
	copied := restored(t, 7, b.List()...)
	for _, each := range []*bus.Bus{b, copied} {
		for range each.Len() {
			l, _ := each.Take(each.Len() - 1)
			meet("Take", l)
		}
	}
}

// TestApart holds P2: of buses that were made apart, also of one list, none tells of another.
func TestApart(t *testing.T) {
	list := letters(1, 2, 3)
	one, two := restored(t, 5, list...), restored(t, 5, list...)
	three, four := bus.New(), bus.New()
	wantTake(t, one, 1, list[1], api.OK)
	wantSend(t, one, letter(0, "one"), 5, api.OK)
	wantSend(t, three, letter(0, "three"), 1, api.OK)
	wantBus(t, two, 5, list)
	wantBus(t, four, 1, nil)
	wantDouble(t, two, 0, 5, api.OK)
	wantTake(t, two, 0, list[0], api.OK)
	wantBus(t, one, 6, []bus.Letter{list[0], list[2], letter(5, "one")})
	wantBus(t, two, 6, []bus.Letter{list[1], list[2], letter(5, "v1")})
	wantBus(t, three, 2, []bus.Letter{letter(1, "three")})
	wantBus(t, bus.New(), 1, nil)
}

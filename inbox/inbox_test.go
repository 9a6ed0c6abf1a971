package inbox_test

import (
	"math"
	"slices"
	"testing"

	"chandler/api"
	"chandler/inbox"
)

// edges are numbers around 0, and at the bounds of an int.
var edges = []int{math.MinInt, math.MinInt + 1, -2, -1, 0, 1, 2, 3, math.MaxInt - 1, math.MaxInt}

// around asks of these orders, steps and tries, with the edges.
func around(orders, steps, tries []int) questions {
	return questions{orders: slices.Concat(edges, orders), steps: slices.Concat(edges, steps), tries: slices.Concat(edges, tries)}
}

// all asks of the edges alone.
func all() questions { return around(nil, nil, nil) }

func wantAsk(t *testing.T, x *inbox.Inbox, order, step, try int, undo bool, verdict inbox.Verdict, code int) {
	t.Helper()
	if v, c := x.Ask(order, step, try, undo); v != verdict || c != code {
		t.Fatalf("Ask(%d, %d, %d, %v) = %d, %d, want %d, %d", order, step, try, undo, v, c, verdict, code)
	}
}

func wantKeep(t *testing.T, x *inbox.Inbox, r request, want api.Errno) {
	t.Helper()
	if e := x.Keep(r.order, r.step, r.try, r.undo, r.code); e != want {
		t.Fatalf("Keep(%+v) = %d, want %d", r, e, want)
	}
}

func wantDone(t *testing.T, x *inbox.Inbox, order, step int, want bool) {
	t.Helper()
	if got := x.Done(order, step); got != want {
		t.Fatalf("Done(%d, %d) = %v, want %v", order, step, got, want)
	}
}

func wantList(t *testing.T, x *inbox.Inbox, want ...inbox.Entry) {
	t.Helper()
	if got := x.List(); !slices.Equal(got, want) {
		t.Fatalf("List() = %+v, want %+v", got, want)
	}
}

// restored is the inbox of these entries, which are to be ones.
func restored(t *testing.T, list ...inbox.Entry) *inbox.Inbox {
	t.Helper()
	x, e := inbox.Restore(list...)
	if x == nil || e != api.OK {
		t.Fatalf("Restore(%+v) = %v, %d, want an inbox", list, x, e)
	}
	wantList(t, x, list...)
	return x
}

func wantNotRestored(t *testing.T, list ...inbox.Entry) {
	t.Helper()
	if x, e := inbox.Restore(list...); x != nil || e != api.ErrArg {
		t.Fatalf("Restore(%+v) = %v, %d, want nil, %d", list, x, e, api.ErrArg)
	}
}

// TestExample holds the chapter's example.
func TestExample(t *testing.T) {
	x := inbox.New()
	wantKeep(t, x, request{1, 0, 1, do, 150}, api.OK)
	wantAsk(t, x, 1, 0, 1, do, inbox.Known, 150)
	wantAsk(t, x, 1, 0, 2, do, inbox.Fresh, 0)
	wantKeep(t, x, request{1, 0, 2, do, 0}, api.OK)
	wantDone(t, x, 1, 0, true)
	wantAsk(t, x, 1, 0, 1, do, inbox.Stale, 0)
	wantKeep(t, x, request{1, 0, 0, undo, 0}, api.OK)
	wantDone(t, x, 1, 0, false)
	wantAsk(t, x, 1, 0, 3, do, inbox.Known, 151)
	wantList(t, x, inbox.Entry{Order: 1, Step: 0, Try: 2, Code: 0, Barred: true})
}

// TestNew holds P8.1 of a new inbox: of no step anything is remembered.
func TestNew(t *testing.T) {
	x := inbox.New()
	wantList(t, x)
	for _, order := range edges {
		for _, step := range edges {
			wantDone(t, x, order, step, false)
			for _, try := range edges {
				wantAsk(t, x, order, step, try, undo, inbox.Fresh, 0)
				if try < 1 {
					wantAsk(t, x, order, step, try, do, inbox.Stale, 0)
				} else {
					wantAsk(t, x, order, step, try, do, inbox.Fresh, 0)
				}
			}
		}
	}
	words{}.want(t, x, all())
}

// TestRestore holds P8.1 of lists that are an inbox', and P8.2 and P8.4 of what they leave.
func TestRestore(t *testing.T) {
	for _, list := range [][]inbox.Entry{
		nil,
		{},
		{{Try: 1}},
		{{Barred: true}},
		{{Order: 7, Step: 2, Try: 3, Code: 150}},
		{{Order: 7, Step: 2, Try: 3, Code: 150, Barred: true}},
		{{Order: 7, Step: 2, Try: 3, Barred: true}},
		{{Order: 7, Step: 2, Barred: true}},
		{{Order: 7, Step: 2, Try: 1, Code: math.MinInt}},
		{{Order: 7, Step: 2, Try: 1, Code: -1}},
		{{Order: 7, Step: 2, Try: math.MaxInt, Code: math.MaxInt, Barred: true}},
		{{Order: math.MinInt, Step: math.MinInt, Try: 1}},
		{{Order: math.MaxInt, Step: math.MaxInt, Try: math.MaxInt}},
		// Entries of one order with rising steps, next to one another and far apart.
		{{Order: 7, Step: 0, Try: 1}, {Order: 7, Step: 1, Try: 2}, {Order: 7, Step: 2, Barred: true}, {Order: 7, Step: 9, Try: 1}},
		{{Order: 0, Step: math.MinInt, Try: 1}, {Order: 0, Step: -1, Try: 1}, {Order: 0, Step: 0, Try: 1}, {Order: 0, Step: 1, Try: 1}, {Order: 0, Step: math.MaxInt, Try: 1}},
		// Rising orders, whatever the steps, the tries and the codes do.
		{{Order: 1, Step: 9, Try: 9, Code: 9}, {Order: 2, Step: 8, Try: 8, Code: 8}, {Order: 3, Step: -8, Try: 1, Code: -7}},
		{{Order: 1, Step: 5, Try: 1}, {Order: 2, Step: 5, Try: 1}, {Order: 3, Step: 5, Try: 1}},
		{{Order: math.MinInt, Step: math.MaxInt, Barred: true}, {Order: -1, Step: 3, Try: 1}, {Order: 0, Step: 2, Try: 1}, {Order: 1, Step: 1, Try: 1}, {Order: math.MaxInt, Step: math.MinInt, Try: 5}},
		{{Order: -7, Step: 0, Try: 1}, {Order: -7, Step: 1, Try: 1}, {Order: 7, Step: 0, Try: 1}, {Order: 7, Step: 1, Barred: true}},
	} {
		x := restored(t, list...)
		wordsOf(list...).want(t, x, around([]int{7, -7}, []int{5, 8, 9}, []int{4, 5, 6, 8, 9, 10}))
	}
}

// TestRestoreMany holds P8.1 of long lists, and of those that fall at one place.
func TestRestoreMany(t *testing.T) {
	var list []inbox.Entry
	for i := range 5000 {
		list = append(list, inbox.Entry{Order: i / 8, Step: i % 8, Try: 1 + i%5, Code: i % 3, Barred: i%7 == 0})
	}
	restored(t, list...)
	for _, at := range []int{1, 8, 2500, 4999} {
		bad := slices.Clone(list)
		bad[at-1], bad[at] = bad[at], bad[at-1]
		wantNotRestored(t, bad...)
		bad = slices.Clone(list)
		bad[at] = bad[at-1]
		wantNotRestored(t, bad...)
	}
}

// TestRestoreOrder holds P8.1 of entries that fall, or are equal, by their orders and steps.
func TestRestoreOrder(t *testing.T) {
	for _, places := range [][][2]int{
		{{1, 1}, {1, 1}},
		{{0, 0}, {0, 0}},
		{{1, 2}, {1, 1}},
		{{2, 1}, {1, 1}},
		{{2, 1}, {1, 2}},
		{{1, 0}, {-1, 0}},
		{{1, 0}, {1, -1}},
		{{0, 0}, {math.MinInt, 0}},
		{{0, 0}, {0, math.MinInt}},
		{{math.MaxInt, 0}, {math.MinInt, 0}},
		{{0, math.MaxInt}, {0, math.MinInt}},
		{{math.MinInt, 5}, {math.MinInt, 5}},
		{{math.MaxInt, math.MaxInt}, {math.MaxInt, math.MaxInt}},
		{{1, 1}, {2, 2}, {2, 2}},
		{{1, 1}, {2, 2}, {1, 3}},
		{{1, 1}, {2, 2}, {2, 1}},
		{{1, 1}, {1, 1}, {2, 2}},
		{{2, 2}, {1, 1}, {3, 3}},
		{{1, 1}, {2, 2}, {1, 1}},
	} {
		var list []inbox.Entry
		for i, place := range places {
			// Also where all else is unlike, or rises.
			list = append(list, inbox.Entry{Order: place[0], Step: place[1], Try: i + 1, Code: i})
		}
		wantNotRestored(t, list...)
		for i := range list {
			list[i].Try, list[i].Code, list[i].Barred = 0, 0, true
		}
		wantNotRestored(t, list...)
	}
}

// TestRestoreEntries holds P8.1 of entries that can't be, alone and among others.
func TestRestoreEntries(t *testing.T) {
	first := inbox.Entry{Order: 1, Step: 1, Try: 1}
	last := inbox.Entry{Order: 9, Step: 1, Barred: true}
	for _, bad := range []inbox.Entry{
		{Try: -1},
		{Try: -1, Barred: true},
		{Try: -1, Code: 150},
		{Try: -1, Code: 150, Barred: true},
		{Try: math.MinInt},
		{Try: math.MinInt, Barred: true},
		{Try: 0},
		{Try: 0, Code: 150},
		{Try: 0, Code: 150, Barred: true},
		{Try: 0, Code: 1, Barred: true},
		{Try: 0, Code: -1, Barred: true},
		{Try: 0, Code: math.MinInt, Barred: true},
		{Try: 0, Code: math.MaxInt, Barred: true},
	} {
		for _, step := range []int{-3, 0, 4} {
			bad.Order, bad.Step = 5, step
			wantNotRestored(t, bad)
			wantNotRestored(t, bad, last)
			wantNotRestored(t, first, bad)
			wantNotRestored(t, first, bad, last)
		}
	}
}

// TestAskToDo holds P8.2 of a request to do, with a try below, at and above the remembered one.
func TestAskToDo(t *testing.T) {
	for _, remembered := range []int{1, 2, 5, math.MaxInt - 1, math.MaxInt} {
		for _, code := range []int{0, 1, 150, 151, -1, math.MinInt, math.MaxInt} {
			x := restored(t, inbox.Entry{Order: 7, Step: 3, Try: remembered, Code: code})
			for _, below := range []int{math.MinInt, -remembered, -1, 0, remembered / 2, remembered - 1} {
				wantAsk(t, x, 7, 3, below, do, inbox.Stale, 0)
			}
			wantAsk(t, x, 7, 3, remembered, do, inbox.Known, code)
			if remembered < math.MaxInt {
				wantAsk(t, x, 7, 3, remembered+1, do, inbox.Fresh, 0)
				wantAsk(t, x, 7, 3, math.MaxInt, do, inbox.Fresh, 0)
			}
			for _, other := range [][2]int{{7, 2}, {7, 4}, {6, 3}, {8, 3}, {-7, 3}, {7, -3}, {3, 7}, {0, 0}} {
				wantAsk(t, x, other[0], other[1], remembered, do, inbox.Fresh, 0)
				wantDone(t, x, other[0], other[1], false)
			}
			wantList(t, x, inbox.Entry{Order: 7, Step: 3, Try: remembered, Code: code})
		}
	}
}

// TestAskBarred holds P8.2 of a step that is barred: a request to do it is barred at any try, also one below 1, and one that was answered ahead of the undoing.
func TestAskBarred(t *testing.T) {
	for _, entry := range []inbox.Entry{{Barred: true}, {Try: 2, Barred: true}, {Try: 2, Code: 150, Barred: true}, {Try: math.MaxInt, Code: 1, Barred: true}} {
		x := restored(t, entry)
		for _, try := range edges {
			wantAsk(t, x, 0, 0, try, do, inbox.Known, int(api.ErrBarred))
			wantAsk(t, x, 0, 0, try, undo, inbox.Known, 0)
		}
	}
}

// TestAskToUndo holds P8.2 of a request to undo: its try doesn't count.
func TestAskToUndo(t *testing.T) {
	for _, entry := range []inbox.Entry{{Try: 1}, {Try: 2, Code: 150}, {Try: math.MaxInt}} {
		x := restored(t, entry)
		for _, try := range edges {
			wantAsk(t, x, 0, 0, try, undo, inbox.Fresh, 0)
		}
	}
}

// TestKeepToDo holds P8.3 of requests to do: each fresh try takes the place of the one ahead, with its code.
func TestKeepToDo(t *testing.T) {
	x, w := inbox.New(), words{}
	for _, r := range []request{{7, 3, 1, do, 150}, {7, 3, 2, do, 0}, {7, 3, 3, do, 7}, {7, 3, 9, do, -5}, {7, 3, math.MaxInt - 1, do, math.MinInt}, {7, 3, math.MaxInt, do, math.MaxInt}} {
		wantKeep(t, x, r, api.OK)
		w = append(w, r)
		wantList(t, x, inbox.Entry{Order: 7, Step: 3, Try: r.try, Code: r.code})
		wantAsk(t, x, 7, 3, r.try, do, inbox.Known, r.code)
		wantDone(t, x, 7, 3, r.code == 0)
		w.want(t, x, around([]int{7}, []int{3}, []int{8, 9, 10}))
	}
}

// TestKeepFirstTry holds P8.3 of a first request with any try from 1 on.
func TestKeepFirstTry(t *testing.T) {
	for _, try := range edges {
		x := inbox.New()
		if try < 1 {
			wantKeep(t, x, request{7, 3, try, do, 0}, api.ErrState)
			wantList(t, x)
			continue
		}
		wantKeep(t, x, request{7, 3, try, do, 4}, api.OK)
		wantList(t, x, inbox.Entry{Order: 7, Step: 3, Try: try, Code: 4})
	}
}

// TestKeepToUndo holds P8.3 of undoing a step of which nothing is remembered, one that was done, one that was refused, and one that is barred: try and code don't count, and what was answered stays remembered.
func TestKeepToUndo(t *testing.T) {
	for _, before := range [][]inbox.Entry{nil, {{Order: 7, Step: 3, Try: 2}}, {{Order: 7, Step: 3, Try: 2, Code: 150}}} {
		for _, try := range edges {
			for _, code := range edges {
				x := restored(t, before...)
				wantKeep(t, x, request{7, 3, try, undo, code}, api.OK)
				barred := inbox.Entry{Order: 7, Step: 3}
				if len(before) > 0 {
					barred = before[0]
				}
				barred.Barred = true
				wantList(t, x, barred)
				wantDone(t, x, 7, 3, false)
				wantKeep(t, x, request{7, 3, try, undo, code}, api.ErrState)
				wantKeep(t, x, request{7, 3, 3, do, 0}, api.ErrState) // behind its undoing
				wantList(t, x, barred)
				wantDone(t, x, 7, 3, false)
			}
		}
	}
}

// TestKeepRefused holds P8.3 where Ask would say Known or Stale: nothing is changed.
func TestKeepRefused(t *testing.T) {
	list := []inbox.Entry{{Order: 7, Step: 0, Try: 5, Code: 150}, {Order: 7, Step: 1, Try: 5}, {Order: 7, Step: 2, Barred: true}, {Order: 7, Step: 3, Try: 5, Barred: true}}
	x, w := restored(t, list...), wordsOf(list...)
	q := around([]int{7}, nil, []int{4, 5, 6})
	for _, r := range []request{
		{7, 0, 5, do, 150}, {7, 0, 5, do, 0}, {7, 0, 4, do, 0}, {7, 0, 1, do, 0}, {7, 0, 0, do, 0}, {7, 0, -1, do, 0}, {7, 0, math.MinInt, do, 0},
		{7, 1, 5, do, 0}, {7, 1, 5, do, 150}, {7, 1, 4, do, 150}, {7, 1, 0, do, 150},
		{7, 2, 1, do, 0}, {7, 2, 0, do, 0}, {7, 2, -1, do, 0}, {7, 2, math.MaxInt, do, 0}, {7, 2, 0, undo, 0}, {7, 2, 1, undo, 5},
		{7, 3, 5, do, 0}, {7, 3, 6, do, 0}, {7, 3, 4, do, 0}, {7, 3, math.MaxInt, do, 0}, {7, 3, 0, undo, 0}, {7, 3, 6, undo, 0},
		{7, 4, 0, do, 0}, {7, 4, -1, do, 0}, {8, 0, 0, do, 0}, {0, 0, math.MinInt, do, 0},
	} {
		wantKeep(t, x, r, api.ErrState)
		w.want(t, x, q)
	}
}

// TestDone holds P8.4: a step is done by the code 0 of its greatest try, till it is barred.
func TestDone(t *testing.T) {
	for _, c := range []struct {
		entry inbox.Entry
		done  bool
	}{
		{inbox.Entry{Try: 1}, true}, {inbox.Entry{Try: 9}, true}, {inbox.Entry{Try: math.MaxInt}, true},
		{inbox.Entry{Try: 1, Code: 1}, false}, {inbox.Entry{Try: 1, Code: -1}, false}, {inbox.Entry{Try: 9, Code: math.MinInt}, false},
		{inbox.Entry{Barred: true}, false}, {inbox.Entry{Try: 1, Barred: true}, false}, {inbox.Entry{Try: 1, Code: 1, Barred: true}, false},
	} {
		for _, order := range edges {
			for _, step := range edges {
				c.entry.Order, c.entry.Step = order, step
				x := restored(t, c.entry)
				wantDone(t, x, order, step, c.done)
				wantDone(t, x, order^1, step, false)
				wantDone(t, x, order, step^1, false)
			}
		}
	}
	x := inbox.New()
	wantKeep(t, x, request{1, 1, 1, do, 0}, api.OK)
	wantDone(t, x, 1, 1, true)
	wantKeep(t, x, request{1, 1, 2, do, 150}, api.OK)
	wantDone(t, x, 1, 1, false)
	wantKeep(t, x, request{1, 1, 3, do, 0}, api.OK)
	wantDone(t, x, 1, 1, true)
	wantKeep(t, x, request{1, 1, 0, undo, 0}, api.OK)
	wantDone(t, x, 1, 1, false)
}

// TestListOrder holds P8.4: entries are listed by rising orders, then steps, in whatever order they came.
func TestListOrder(t *testing.T) {
	var want []inbox.Entry
	for i, order := range edges {
		for k, step := range edges {
			e := inbox.Entry{Order: order, Step: step, Try: 1 + i, Code: k}
			if (i+k)%3 == 0 {
				e = inbox.Entry{Order: order, Step: step, Barred: true}
			}
			want = append(want, e)
		}
	}
	for _, stride := range []int{1, 3, 37, 99} {
		x := inbox.New()
		for n := range want {
			e := want[n*stride%len(want)]
			wantKeep(t, x, request{e.Order, e.Step, e.Try, e.Barred, e.Code}, api.OK)
		}
		for range 3 {
			wantList(t, x, want...)
		}
	}
}

// TestListsAreNew holds that writing into a list that was answered, also behind its length, changes no inbox and no other list.
func TestListsAreNew(t *testing.T) {
	list := []inbox.Entry{{Order: 1, Step: 1, Try: 1}, {Order: 1, Step: 2, Try: 2, Code: 150}, {Order: 3, Step: 0, Barred: true}}
	x, w := restored(t, list...), wordsOf(list...)
	one, two := x.List(), x.List()
	for i := range one[:cap(one)] {
		one[:cap(one)][i] = inbox.Entry{Order: 9, Step: 9, Try: 9, Code: 9}
	}
	if !slices.Equal(two, list) {
		t.Errorf("two lists share their memory: %+v", two)
	}
	_ = append(two, inbox.Entry{Order: 8})
	_ = append(two[:1], inbox.Entry{Order: 7})
	w.want(t, x, all())

	kept := x.List()
	w.act(t, x, request{1, 1, 2, do, 5})
	w.act(t, x, request{1, 1, 0, undo, 0})
	w.act(t, x, request{0, 0, 1, do, 0})
	if !slices.Equal(kept, list) {
		t.Errorf("a list that was answered changed with its inbox: %+v, want %+v", kept, list)
	}
	w.want(t, x, all())
}

// TestKeepsNoList holds that a list that is handed in is neither changed nor kept, and what lies behind it isn't read.
func TestKeepsNoList(t *testing.T) {
	whole := []inbox.Entry{{Order: 1, Step: 1, Try: 1}, {Order: 1, Step: 2, Try: 2, Code: 150}, {Order: 1, Step: 2, Try: -1}}
	handed := slices.Clone(whole)
	x, w := restored(t, handed[:2]...), wordsOf(whole[:2]...)
	w.act(t, x, request{1, 1, 2, do, 5})
	w.act(t, x, request{2, 1, 0, undo, 0})
	if !slices.Equal(handed, whole) {
		t.Errorf("a list that was handed in was changed: %+v, want %+v", handed, whole)
	}
	for i := range handed {
		handed[i] = inbox.Entry{Order: 9, Step: 9, Try: 9}
	}
	w.want(t, x, all())
	bad := slices.Clone(whole)
	wantNotRestored(t, bad...)
	if !slices.Equal(bad, whole) {
		t.Errorf("a list that was refused was changed: %+v", bad)
	}
}

// TestNil holds P1 and P8.2 to P8.4 of a nil inbox.
func TestNil(t *testing.T) {
	var none *inbox.Inbox
	for _, order := range edges {
		for _, step := range edges {
			wantDone(t, none, order, step, false)
			for _, try := range edges {
				for _, undo := range []bool{do, undo} {
					wantAsk(t, none, order, step, try, undo, inbox.Stale, 0)
					wantKeep(t, none, request{order, step, try, undo, 0}, api.ErrNil)
				}
			}
		}
	}
	wantList(t, none)
}

// TestZero holds that no call of a zero inbox panics: it is as a new one.
func TestZero(t *testing.T) {
	x, w := &inbox.Inbox{}, words{}
	w.want(t, x, all())
	for _, r := range []request{{1, 1, 0, do, 0}, {1, 1, 1, do, 0}, {2, 2, 0, undo, 0}} {
		w.act(t, x, r)
		w.want(t, x, all())
	}
}

// TestApart holds P2: of inboxes that were made apart, also of one list, none tells of another.
func TestApart(t *testing.T) {
	list := []inbox.Entry{{Order: 1, Step: 1, Try: 1}, {Order: 2, Step: 0, Barred: true}}
	made := []*inbox.Inbox{restored(t, list...), restored(t, list...), inbox.New(), inbox.New()}
	told := []words{wordsOf(list...), wordsOf(list...), {}, {}}
	for i, x := range made {
		for _, r := range []request{{1, 1, 2 + i, do, i}, {1, 1, 0, undo, 0}, {i, 3, 1, do, 0}, {3, i, 0, undo, 0}} {
			told[i].act(t, x, r)
			for k, other := range made {
				told[k].want(t, other, all())
			}
		}
	}
	words{}.want(t, inbox.New(), all())
}

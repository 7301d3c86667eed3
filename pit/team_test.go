package pit

import (
	"slices"
	"testing"

	"pit/api"
)

func entered(id, book int) api.Command {
	return api.Command{What: api.New, Id: id, Trader: 1, Book: book, Side: api.Buy, Kind: api.Rest, Price: 100, Count: 5}
}

// shared tells of each book the first one that has the same worker.
func shared(t *team) []int {
	var out []int
	for _, w := range t.workers {
		out = append(out, 1+slices.Index(t.workers[:], w))
	}
	return out
}

func TestWhoWorksOnWhat(t *testing.T) {
	wrong := entered(1, 2)
	wrong.Count = 0
	for _, c := range []struct {
		l    []api.Command
		want []int
	}{
		{nil, []int{1, 2, 3, 4, 5, 6, 7, 8}},
		{[]api.Command{entered(1, 1), entered(2, 2), entered(3, 2), entered(1, 1)}, []int{1, 2, 3, 4, 5, 6, 7, 8}},
		{[]api.Command{entered(1, 1), wrong, {What: api.Cancel, Id: 1, Trader: 1, Book: 2}}, []int{1, 2, 3, 4, 5, 6, 7, 8}},
		{[]api.Command{entered(1, 1), entered(1, 3)}, []int{1, 2, 1, 4, 5, 6, 7, 8}},
		{[]api.Command{entered(1, 8), entered(2, 7), entered(2, 6), entered(1, 7)}, []int{1, 2, 3, 4, 5, 6, 6, 6}},
		{[]api.Command{entered(1, 1), entered(1, 2), entered(2, 3), entered(2, 4), entered(3, 4), entered(3, 1)}, []int{1, 1, 1, 1, 5, 6, 7, 8}},
		{[]api.Command{entered(9, 1)}, []int{1, 2, 3, 4, 1, 6, 7, 8}},                // 9 rests in book 5
		{[]api.Command{entered(9, 1), entered(1, 1)}, []int{1, 2, 3, 4, 1, 6, 7, 8}}, // so that all that book 1 has is book 5's worker's too
	} {
		p := New()
		p.Do(entered(9, 5))
		team := newTeam(&p.all, c.l)
		if got := shared(team); !slices.Equal(got, c.want) {
			t.Errorf("%+v: %v, want %v", c.l, got, c.want)
		}
		for i, w := range team.workers {
			for k, other := range team.workers {
				if mine := w.books[k] != nil; mine != (w == other) || mine && w.books[k] != p.all.books[k] {
					t.Errorf("%+v: the worker of book %d has book %d: %v", c.l, 1+i, 1+k, mine)
				}
			}
		}
	}
}

// Whoever is sent something is at work, on a channel of its own, until all is finished.
func TestWorkersBeginAndEnd(t *testing.T) {
	p := New()
	l := []api.Command{entered(1, 1), entered(2, 2), entered(1, 3), {What: api.Open, Book: 4}}
	team := newTeam(&p.all, l)
	out := make([][]api.Event, len(l))
	for i, c := range l {
		team.send(c, &out[i])
	}
	for i, at := range []bool{true, true, true, true, false, false, false, false} {
		if w := team.workers[i]; (w.errands != nil) != at {
			t.Errorf("book %d: at work is %v", 1+i, !at)
		}
	}
	if one, two := team.workers[0].errands, team.workers[1].errands; one == two || one != team.workers[2].errands {
		t.Error("books 1 and 2 have one channel, or 1 and 3 two")
	}
	team.finish()
	for i, w := range team.workers {
		if w.errands != nil {
			t.Errorf("book %d: still at work", 1+i)
		}
	}
	for i, n := range []int{2, 2, 1, 1} {
		if len(out[i]) != n {
			t.Errorf("command %d: %+v", i, out[i])
		}
	}
}

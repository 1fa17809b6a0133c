package agenda

import "container/heap"

// item is a thing that is to be done at a time.
type item struct {
	at, id int
}

func (x item) before(y item) bool {
	if x.at != y.at {
		return x.at < y.at
	}
	return x.id < y.id
}

const (
	root    = 0  // the place of the item that comes first
	nowhere = -1 // the place of an item that isn't there
)

// queue is a heap of items. It knows the place of each by its number, so that none has to be searched for.
type queue struct {
	items  []item
	places map[int]int
}

func (q *queue) Len() int { return len(q.items) }

func (q *queue) Less(i, j int) bool { return item.before(q.items[i], q.items[j]) }

func (q *queue) Swap(i, j int) {
	x, y := q.items[i], q.items[j]
	q.items[i], q.items[j] = y, x
	q.places[y.id], q.places[x.id] = i, j
}

// Push is for package heap: it puts an item at the last place.
func (q *queue) Push(v any) {
	if q.places == nil { // an Agenda that New has not made
		q.places = map[int]int{}
	}
	x := v.(item)
	q.places[x.id] = len(q.items)
	q.items = append(q.items, x)
}

// Pop is for package heap: it takes out the item at the last place.
func (q *queue) Pop() any {
	last := len(q.items) - 1
	x := q.items[last]
	q.items = q.items[:last]
	delete(q.places, x.id)
	return x
}

// find is the place of an item.
func (q *queue) find(id int) int {
	if i, there := q.places[id]; there {
		return i
	}
	return nowhere
}

func (q *queue) look(place int) item { return q.items[place] }

func (q *queue) take(place int) item { return heap.Remove(q, place).(item) }

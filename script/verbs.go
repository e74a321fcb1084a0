package script

import (
	"strconv"
	"strings"

	"sumpter/api"
	"sumpter/cluster"
	"sumpter/judge"
)

const (
	// anyMany is that there may be as many words as there are.
	anyMany    = -1
	mostRounds = 100
)

// doing does what a line says, and tells the answer; it gives up with a refusal.
type doing func(d *Desk) string

// verb is a line's first word: how many words stand behind it, and how they are read.
type verb struct {
	name        string
	least, most int
	read        func(words []string) doing
}

// verbOf is the verb of a word, or gives up.
func verbOf(word string) verb {
	verbs := []verb{
		{"cluster", 2, anyMany, readCluster},
		{"begin", 2, anyMany, readBegin},
		{"resend", 1, 1, numbered(func(n int) api.Act { return api.Act{Kind: api.Resend, A: n} })},
		{"tick", 1, 1, numbered(func(n int) api.Act { return api.Act{Kind: api.Tick, A: n} })},
		{"start", 1, 1, numbered(func(n int) api.Act { return api.Act{Kind: api.Start, A: n} })},
		{"deliver", 1, 1, numbered(func(n int) api.Act { return api.Act{Kind: api.Deliver, B: n} })},
		{"drop", 1, 1, numbered(func(n int) api.Act { return api.Act{Kind: api.Drop, B: n} })},
		{"double", 1, 1, numbered(func(n int) api.Act { return api.Act{Kind: api.Double, B: n} })},
		{"spoil", 2, 2, readSpoil},
		{"crash", 1, 2, readCrash},
		{"fuse", 2, 2, readFuse},
		{"split", 1, 1, readSplit},
		{"move", 2, 2, readMove},
		{"round", 0, 1, readRound},
		{"map", 0, 0, asks(tellMap)},
		{"owners", 0, 0, asks(tellOwners)},
		{"seen", 0, 0, asks(tellSeen)},
		{"nodes", 0, 0, asks(tellNodes)},
		{"letters", 0, 0, asks(func(d *Desk) string { return strconv.Itoa(len(d.cluster.Letters())) })},
		{"doubt", 0, 0, asks(func(d *Desk) string { return strconv.Itoa(d.cluster.Doubt()) })},
		{"idle", 0, 0, asks(tellIdle)},
		{"judge", 0, 0, asks(tellJudge)},
	}
	for _, v := range verbs {
		if v.name == word {
			return v
		}
	}
	panic(noLine{})
}

// must gives up, if there is an error.
func must(e api.Errno) {
	if e != api.OK {
		panic(refusal{e})
	}
}

// clustered does what a desk without a cluster refuses.
func clustered(does doing) doing {
	return func(d *Desk) string {
		if d.cluster == nil {
			must(api.ErrState)
		}
		return does(d)
	}
}

// act does an act, some times.
func act(a api.Act, times int) doing {
	return clustered(func(d *Desk) string {
		for range times {
			must(d.cluster.Do(a))
		}
		return ""
	})
}

// asks reads a line without more words, that asks for something.
func asks(tell doing) func(words []string) doing {
	return func([]string) doing { return clustered(tell) }
}

// numbered reads the line of an act of one number.
func numbered(of func(n int) api.Act) func(words []string) doing {
	return func(words []string) doing { return act(of(number(words[0])), 1) }
}

func readCluster(words []string) doing {
	shards := number(words[0])
	var l []api.Owner
	for _, w := range words[1:] {
		lo, n := cut(w, "/")
		l = append(l, api.Owner{Lo: end(lo), Shard: number(n)})
	}
	return func(d *Desk) string {
		c, e := cluster.New(shards, l)
		must(e)
		d.cluster, d.shards = c, shards
		return ""
	}
}

func readBegin(words []string) doing {
	a := api.Act{Kind: api.Begin, A: number(words[0])}
	for _, w := range words[1:] {
		a.Ops = append(a.Ops, operation(w))
	}
	return act(a, 1)
}

func readSpoil(words []string) doing {
	return act(api.Act{Kind: api.Spoil, B: number(words[0]), Mask: key(words[1])}, 1)
}

func readCrash(words []string) doing {
	a := api.Act{Kind: api.Crash, A: number(words[0])}
	if len(words) > 1 {
		a.Mask = bits(words[1])
	}
	return act(a, 1)
}

func readFuse(words []string) doing {
	return act(api.Act{Kind: api.Fuse, A: number(words[0]), B: number(words[1])}, 1)
}

func readSplit(words []string) doing { return act(api.Act{Kind: api.Split, Key: key(words[0])}, 1) }

func readMove(words []string) doing {
	return act(api.Act{Kind: api.Move, Key: key(words[0]), B: number(words[1])}, 1)
}

func readRound(words []string) doing {
	n := 1
	if len(words) > 0 {
		n = number(words[0])
	}
	if n > mostRounds {
		panic(noLine{})
	}
	return act(api.Act{Kind: api.Round}, n)
}

// lines are how many there are, then a line for each.
func lines[T any](l []T, one func(x T) string) string {
	var b strings.Builder
	b.WriteString(strconv.Itoa(len(l)))
	for _, x := range l {
		b.WriteString("\n " + one(x))
	}
	return b.String()
}

func tellMap(d *Desk) string {
	m, e := d.cluster.Map()
	must(e)
	return lines(m, pairText)
}

func tellOwners(d *Desk) string {
	return lines(d.cluster.Owners(), func(o api.Owner) string { return endText(o.Lo) + " " + strconv.Itoa(o.Shard) })
}

func tellSeen(d *Desk) string { return lines(d.cluster.Seen(), seenText) }

func tellNodes(d *Desk) string {
	var l []string
	for node := range d.shards + 1 {
		if d.cluster.Up(node) {
			l = append(l, "up")
		} else {
			l = append(l, "down")
		}
	}
	return strings.Join(l, " ")
}

func tellIdle(d *Desk) string {
	if d.cluster.Idle() {
		return "yes"
	}
	return "no"
}

func tellJudge(d *Desk) string {
	at, e := judge.Judge(d.cluster.Seen())
	if e == api.OK {
		return "fine"
	}
	return strconv.Itoa(int(e)) + " " + strconv.Itoa(at)
}

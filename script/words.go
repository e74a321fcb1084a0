package script

import (
	"strconv"
	"strings"

	"sumpter/api"
)

const (
	mostDigits = 6
	mostBits   = 64
	// noEnd is the word for the beginning, or the end.
	noEnd = "-"
)

// only tells whether a text has no other bytes than those that are asked for.
func only(s string, is func(b byte) bool) bool {
	for i := range len(s) {
		if !is(s[i]) {
			return false
		}
	}
	return true
}

func isDigit(b byte) bool { return b >= '0' && b <= '9' }

func isPlain(b byte) bool { return isDigit(b) || b >= 'a' && b <= 'z' }

func isBit(b byte) bool { return b == '0' || b == '1' }

// number is the number of a word, or gives up.
func number(w string) int {
	if w == "" || len(w) > mostDigits || !only(w, isDigit) || len(w) > 1 && w[0] == '0' {
		panic(noLine{})
	}
	n, err := strconv.Atoi(w)
	if err != nil {
		panic(noLine{})
	}
	return n
}

// key is a word that is a key, or gives up.
func key(w string) string {
	if w == "" || len(w) > api.MaxKey || !only(w, isPlain) {
		panic(noLine{})
	}
	return w
}

// value is a word that is a value, or gives up.
func value(w string) string {
	if len(w) > api.MaxValue || !only(w, isPlain) {
		panic(noLine{})
	}
	return w
}

// end is the end of a range that a word tells, or gives up.
func end(w string) string {
	if w == noEnd {
		return ""
	}
	return key(w)
}

// bits are the bytes of a mask that a word tells, or gives up.
func bits(w string) string {
	if w == "" || len(w) > mostBits || !only(w, isBit) {
		panic(noLine{})
	}
	b := []byte(w)
	for i := range b {
		b[i] -= '0'
	}
	return string(b)
}

// cut is what stands ahead of a mark in a word, and behind it, or gives up.
func cut(w, mark string) (string, string) {
	a, b, ok := strings.Cut(w, mark)
	if !ok {
		panic(noLine{})
	}
	return a, b
}

// operation is the operation that a word tells, or gives up.
func operation(w string) api.Op {
	kind, rest := cut(w, ":")
	switch kind {
	case "get":
		return api.Op{Kind: api.Get, Key: key(rest)}
	case "put":
		k, v := cut(rest, "=")
		return api.Op{Kind: api.Put, Key: key(k), Value: value(v)}
	case "del":
		return api.Op{Kind: api.Del, Key: key(rest)}
	case "scan":
		lo, more := cut(rest, ":")
		hi, n := cut(more, ":")
		return api.Op{Kind: api.Scan, Lo: end(lo), Hi: end(hi), Most: number(n)}
	case "clear":
		lo, hi := cut(rest, ":")
		return api.Op{Kind: api.Clear, Lo: end(lo), Hi: end(hi)}
	}
	panic(noLine{})
}

// endText is the word of an end of a range.
func endText(s string) string {
	if s == "" {
		return noEnd
	}
	return s
}

func pairText(p api.Pair) string { return p.Key + "=" + p.Value }

// opText is the word of an operation.
func opText(o api.Op) string {
	switch o.Kind {
	case api.Get:
		return "get:" + o.Key
	case api.Put:
		return "put:" + o.Key + "=" + o.Value
	case api.Del:
		return "del:" + o.Key
	case api.Scan:
		return "scan:" + endText(o.Lo) + ":" + endText(o.Hi) + ":" + strconv.Itoa(o.Most)
	}
	return "clear:" + endText(o.Lo) + ":" + endText(o.Hi)
}

// resultText is the word of a result.
func resultText(r api.Result) string {
	if r.Found {
		return "=" + r.Value
	}
	if len(r.Pairs) == 0 {
		return "-"
	}
	var l []string
	for _, p := range r.Pairs {
		l = append(l, pairText(p))
	}
	return "[" + strings.Join(l, ",") + "]"
}

// seenText is the line of something that was seen.
func seenText(s api.Seen) string {
	who := " " + strconv.Itoa(s.Client) + " " + strconv.FormatUint(s.Req, 10)
	var words []string
	switch s.Kind {
	case api.Asked:
		words = append(words, "asked"+who)
		for _, o := range s.Ops {
			words = append(words, opText(o))
		}
	case api.Decided:
		words = append(words, "decided"+who)
	case api.Told:
		if s.Code == api.Aborted {
			return "told" + who + " aborted"
		}
		words = append(words, "told"+who+" committed")
		for _, r := range s.Results {
			words = append(words, resultText(r))
		}
	}
	return strings.Join(words, " ")
}

package grammar

import (
	"strings"

	"posthorn/api"
	"posthorn/flag"
	"posthorn/seqset"
	"posthorn/word"
)

// keyRule is a word of a key: what it alone says, what reads the rest of its node, and how many kids stand behind that.
type keyRule struct {
	word string
	key  api.Key
	read func(r *reader, k *api.Key)
	kids int
}

func keyRules() []keyRule {
	return []keyRule{
		{"NOT", api.Key{Kind: api.KeyNot}, (*reader).noMore, 1},
		{"OR", api.Key{Kind: api.KeyOr}, (*reader).noMore, 2},
		{"ALL", api.Key{Kind: api.KeyAll}, (*reader).noMore, 0},
		{"UID", api.Key{Kind: api.KeyUid}, (*reader).keySet, 0},
		{"ANSWERED", api.Key{Kind: api.KeyFlag, Field: `\Answered`, N: 1}, (*reader).noMore, 0},
		{"FLAGGED", api.Key{Kind: api.KeyFlag, Field: `\Flagged`, N: 1}, (*reader).noMore, 0},
		{"DELETED", api.Key{Kind: api.KeyFlag, Field: `\Deleted`, N: 1}, (*reader).noMore, 0},
		{"SEEN", api.Key{Kind: api.KeyFlag, Field: `\Seen`, N: 1}, (*reader).noMore, 0},
		{"DRAFT", api.Key{Kind: api.KeyFlag, Field: `\Draft`, N: 1}, (*reader).noMore, 0},
		{"UNANSWERED", api.Key{Kind: api.KeyFlag, Field: `\Answered`}, (*reader).noMore, 0},
		{"UNFLAGGED", api.Key{Kind: api.KeyFlag, Field: `\Flagged`}, (*reader).noMore, 0},
		{"UNDELETED", api.Key{Kind: api.KeyFlag, Field: `\Deleted`}, (*reader).noMore, 0},
		{"UNSEEN", api.Key{Kind: api.KeyFlag, Field: `\Seen`}, (*reader).noMore, 0},
		{"UNDRAFT", api.Key{Kind: api.KeyFlag, Field: `\Draft`}, (*reader).noMore, 0},
		{"KEYWORD", api.Key{Kind: api.KeyFlag, N: 1}, (*reader).keyword, 0},
		{"UNKEYWORD", api.Key{Kind: api.KeyFlag}, (*reader).keyword, 0},
		{"LARGER", api.Key{Kind: api.KeyLarger}, (*reader).keyNumber, 0},
		{"SMALLER", api.Key{Kind: api.KeySmaller}, (*reader).keyNumber, 0},
		{"MODSEQ", api.Key{Kind: api.KeyModseq}, (*reader).keyNumber, 0},
		{"TEXT", api.Key{Kind: api.KeyText}, (*reader).keyText, 0},
		{"BODY", api.Key{Kind: api.KeyBody}, (*reader).keyText, 0},
		{"HEADER", api.Key{Kind: api.KeyHeader}, (*reader).keyHeader, 0},
		{"SUBJECT", api.Key{Kind: api.KeyHeader, Field: "subject"}, (*reader).keyText, 0},
		{"FROM", api.Key{Kind: api.KeyHeader, Field: "from"}, (*reader).keyText, 0},
		{"TO", api.Key{Kind: api.KeyHeader, Field: "to"}, (*reader).keyText, 0},
	}
}

func (r *reader) search(c *api.Command) {
	r.must(blank)
	r.and(api.MaxNest)
	c.Keys = r.keys
}

// and reads keys with a blank between, and lays one ahead of them whose kids they are. So many of AND, NOT and OR may still stand in one another, this one among them.
func (r *reader) and(nest int) {
	at := len(r.keys)
	r.layParent(api.Key{Kind: api.KeyAnd}, nest)
	for more := true; more; more = r.skips(blank) {
		r.keys[at].Kids++
		r.key(nest - 1)
	}
}

// key reads a key with its kids.
func (r *reader) key(nest int) {
	if r.skips("(") {
		r.and(nest)
		r.must(")")
		return
	}
	x, ok := keyRuleOf(r.until(wordEnds))
	if !ok {
		r.fail()
	}
	x.read(r, &x.key)
	if x.kids == 0 {
		r.lay(x.key)
		return
	}
	r.layParent(x.key, nest)
	for range x.kids {
		r.must(blank)
		r.key(nest - 1)
	}
}

// keyRuleOf is what a key begins with: a word, or a set.
func keyRuleOf(s string) (keyRule, bool) {
	name := word.Upper(s)
	for _, x := range keyRules() {
		if x.word == name {
			return x, true
		}
	}
	l, ok := seqset.Parse(s)
	return keyRule{key: api.Key{Kind: api.KeySet, Set: l}, read: (*reader).noMore}, ok
}

// lay lays a node behind those that were read.
func (r *reader) lay(k api.Key) {
	if len(r.keys) == api.MaxKeys {
		r.fail()
	}
	r.keys = append(r.keys, k)
}

// layParent lays a node whose kids come behind it.
func (r *reader) layParent(k api.Key, nest int) {
	if nest == 0 {
		r.fail()
	}
	r.lay(k)
}

func (r *reader) noMore(*api.Key) {}

func (r *reader) keySet(k *api.Key) {
	r.must(blank)
	k.Set = r.set()
}

func (r *reader) keyNumber(k *api.Key) {
	r.must(blank)
	k.N = r.number(0, api.MaxMod)
}

func (r *reader) keyText(k *api.Key) {
	r.must(blank)
	k.Text = r.astring()
}

func (r *reader) keyHeader(k *api.Key) {
	r.must(blank)
	s := r.astring()
	if !isField(s) {
		r.fail()
	}
	k.Field = strings.ToLower(s) // of such bytes it turns those from A to Z alone
	r.keyText(k)
}

// keyword reads an atom, which always names a flag, but never one of the system.
func (r *reader) keyword(k *api.Key) {
	r.must(blank)
	k.Field, _ = flag.Canon(r.atom(api.MaxKeyword))
}

func isField(s string) bool {
	for i := range len(s) { // a range over s itself would go by runes
		if s[i] < 0x21 || s[i] > 0x7e || s[i] == ':' {
			return false
		}
	}
	return s != "" && len(s) <= api.MaxKeyword
}

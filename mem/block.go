package mem

import "slices"

// pageWords is how many words of a block get room together. A great block of which little is stored stays small.
const pageWords = 64

type page [pageWords]word

// block is one block: its size, and its words by pages. What no page holds is as it was made: unknown, or 0 behind Zero.
type block struct {
	size   int
	freed  bool
	zeroed bool
	pages  []*page // nil till something is stored
}

// free drops the bytes too: nobody asks for them any more.
func (b *block) free() {
	b.freed = true
	b.pages = nil
}

func (b *block) zero() {
	b.zeroed = true
	b.pages = nil
}

// words tells how many words the block has; of the last one it may have some bytes alone.
func (b *block) words() int { return (b.size + wordBytes - 1) / wordBytes }

// page is the page that has room for the word i; nil, if there is none.
func (b *block) page(i int) *page {
	if b.pages == nil {
		return nil
	}
	return b.pages[i/pageWords]
}

// blank is the word i as long as nothing is stored there. Bytes behind the block's end are unknown in every word, so that equal bytes are equal words.
func (b *block) blank(i int) word {
	if !b.zeroed {
		return word{}
	}
	return zeros(b.size - i*wordBytes)
}

// word is the word i as it is.
func (b *block) word(i int) word {
	if p := b.page(i); p != nil {
		return p[i%pageWords]
	}
	return b.blank(i)
}

// place is where the word i is kept; room is made, if there is none.
func (b *block) place(i int) *word {
	if b.pages == nil {
		b.pages = make([]*page, (b.words()+pageWords-1)/pageWords)
	}
	if b.page(i) == nil {
		b.pages[i/pageWords] = b.blankPage(i / pageWords)
	}
	return &b.page(i)[i%pageWords]
}

func (b *block) blankPage(number int) *page {
	p := &page{}
	if b.zeroed {
		for i := range p {
			p[i] = b.blank(number*pageWords + i)
		}
	}
	return p
}

// own gives the block pages of its own: behind it, it shares none with the block that it was copied from.
func (b *block) own() {
	b.pages = slices.Clone(b.pages)
	for i, p := range b.pages {
		if p != nil {
			copied := *p
			b.pages[i] = &copied
		}
	}
}

// same tells whether two blocks are the same; the bytes of freed ones are not asked.
func (b *block) same(o *block) bool {
	if b.size != o.size || b.freed != o.freed {
		return false
	}
	if b.freed {
		return true
	}
	for i := 0; i < b.words(); i += pageWords {
		if !b.samePage(o, i) {
			return false
		}
	}
	return true
}

// samePage compares the words from i on, as many as a page has.
func (b *block) samePage(o *block, i int) bool {
	if b.page(i) == nil && o.page(i) == nil && b.zeroed == o.zeroed {
		return true
	}
	for end := min(i+pageWords, b.words()); i < end; i++ {
		if b.word(i) != o.word(i) {
			return false
		}
	}
	return true
}

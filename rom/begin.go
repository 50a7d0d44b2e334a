package rom

// The first of ROM's two pages: where a machine begins, the refresh routine, the digits' pictures.

// beginning finds the memory's end, and leads to RAM, or to the monitor, if the key C is down. P and X are 0 in it.
const beginning = `
	at 8000
	LBR to begin		; away from RAM's place, which ROM has while the latch is set
begin:
	OUT 4
	data 00			; any byte: that it goes out lets go of the latch
	LDI high refresh
	PHI 1
	LDI low refresh
	PLO 1
	LDI 7f			; the last byte of the greatest RAM
	PHI b
	LDI ff
	PLO b
find:
	LDI 00
	STR b
	LDN b			; where no RAM lies ff is read
	BZ to found
	GHI b
	SMI 08			; RAM grows by eight pages
	PHI b
	BR to find
found:
	GHI b
	SMI 01
	PHI 2
	LDI cf
	PLO 2
	OUT 2
	data 0c
	BN3 to leave
	LDI high monitor
	PHI 3
	LDI low monitor
	PLO 3
	SEP 3
leave:
	LBR 0000
`

// refreshing shows a page, and counts the timers down. Its first byte comes 29 cycles behind the first fetch, an odd number: so it makes no difference whether INT came in a fetch or behind one. Between the eight bytes of a line and those of the next one there is time for three instructions, no more and no less; SEX 2 is there to pass it.
const refreshing = `
quiet:
	REQ
leave-refresh:
	LDA 2
	RET			; leaves R1 at what lies behind it
refresh:
	DEC 2
	SAV
	DEC 2
	STR 2
	NOP			; the three cycles that make 29
	LDI 00
	PLO 0
	GHI b
	PHI 0
	SEX 2
	SEX 2
row:
	GLO 0
	SEX 2
	SEX 2
	DEC 0			; behind the last row R0 has left the page
	PLO 0
	SEX 2
	DEC 0
	PLO 0
	SEX 2
	DEC 0
	PLO 0
	BN1 to row		; EF1 is on in the last four lines
	GHI 8
	BZ to sound
	PLO 9			; DF must stay, so no sum
	DEC 9
	GLO 9
	PHI 8
sound:
	GLO 8
	BZ to quiet
	SEQ
	DEC 8
	BR to leave-refresh
`

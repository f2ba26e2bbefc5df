"""The desk: requests and answers as texts, for one cellar."""

from lettercell.cellar import Cellar, come_up
from lettercell.errors import BadWord, Beyond, Broken, Busy, Doubled, Fenced, Gap, Gone, Late, Needed, NoDeed, NoSuch
from lettercell.errors import NotYours, TooOld, Twice, WrongKind
from lettercell.events import owner_text, word_in, word_text
from lettercell.lines import joined, parted
from lettercell.looker import standing, tale

FIGURES = "0123456789"
FIGURES_MOST = 10


def number_in(text):
    if not 1 <= len(text) <= FIGURES_MOST or not all([sign in FIGURES for sign in text]):
        raise BadWord()
    if text.startswith("0") and text != "0":
        raise BadWord()
    return int(text)


def asked_word(text):
    if text != "-" and not text.startswith("="):
        raise BadWord()
    return word_in(text)


def truth_in(text):
    if text != "yes" and text != "no":
        raise BadWord()
    return text == "yes"


def numbers(told):
    return [str(number) for number in told]


def letters_told(letters):
    texts = []
    for place, key, word in letters:
        texts.extend([str(place), key, word_text(word)])
    return texts


def moves_told(moves):
    texts = []
    for row, before, owner in moves:
        texts.extend([str(row), owner_text(before), owner_text(owner)])
    return texts


def hail_told(cellar, things):
    return numbers(cellar.hail(things[0]))


def put_told(cellar, things):
    return numbers(cellar.put(things[0], things[1], things[2], things[3], things[4], things[5], things[6]))


def begin_told(cellar, things):
    return numbers([cellar.begin(things[0], things[1], things[2])])


def pledge_told(cellar, things):
    cellar.pledge(things[0], things[1], things[2], things[3], things[4])
    return []


def close_told(cellar, things):
    texts = []
    for spot in cellar.close(things[0], things[1]):
        texts.extend(numbers(spot))
    return texts


def drop_told(cellar, things):
    return numbers([cellar.drop(things[0], things[1])])


def fate_told(cellar, things):
    return [cellar.fate_of(things[0])]


def found_told(cellar, things):
    cellar.found(things[0], things[1], things[2], things[3], things[4])
    return []


def enter_told(cellar, things):
    return moves_told(cellar.enter(things[0], things[1]))


def leave_told(cellar, things):
    return moves_told(cellar.leave(things[0], things[1]))


def take_told(cellar, things):
    taken = cellar.take(things[0], things[1], things[2])
    if taken is None:
        return []
    return letters_told([taken[:3]]) + [str(taken[3])]


def answer_told(cellar, things):
    return numbers([cellar.answer(things[0], things[1], things[2])])


def back_told(cellar, things):
    return numbers([cellar.give_back(things[0], things[1], things[2])])


def pass_told(cellar, things):
    return numbers([cellar.pass_turns(things[0])])


def now_told(cellar, things):
    return numbers([cellar.now()])


def attach_told(cellar, things):
    return numbers([cellar.attach(things[0], things[1])])


def look_told(cellar, things):
    looked = cellar.look(things[0], things[1])
    return [str(looked[1])] + letters_told(looked[0])


def advance_told(cellar, things):
    return numbers([cellar.advance(things[0], things[1])])


def detach_told(cellar, things):
    cellar.detach(things[0])
    return []


def draw_told(cellar, things):
    return numbers(cellar.draw(things[0]))


def cut_told(cellar, things):
    return numbers(cellar.cut(things[0], things[1]))


def read_told(cellar, things):
    return letters_told(cellar.read(things[0], things[1], things[2], things[3]))


def front_told(cellar, things):
    return numbers([cellar.front_of(things[0])])


def floor_told(cellar, things):
    return numbers([cellar.floor_of(things[0])])


def drawn_told(cellar, things):
    return numbers([cellar.drawn_of(things[0])])


def mark_told(cellar, things):
    return numbers([cellar.mark_of(things[0], things[1])])


def owner_told(cellar, things):
    return [owner_text(cellar.owner_of(things[0], things[1]))]


def asides_told(cellar, things):
    return numbers(cellar.aside_of(things[0], things[1]))


def takers_told(cellar, things):
    return cellar.takers_of(things[0])


def written_told(cellar, things):
    return cellar.written()


def tale_told(cellar, things):
    events = tale(cellar.written(), things[0], things[1])
    return [" ".join([str(part) for part in event]) for event in events]


def stands_told(cellar, things):
    return letters_told(standing(cellar.written(), things[0]))


# Of each request: the form of each text behind its name (t a text, n a number, w a word, y a truth), and who tells.
REQUESTS = {
    "hail": ("t", hail_told),
    "put": ("tnnttwn", put_told),
    "begin": ("tnn", begin_told),
    "pledge": ("tntnn", pledge_told),
    "close": ("tn", close_told),
    "drop": ("tn", drop_told),
    "fate": ("n", fate_told),
    "found": ("ttnnn", found_told),
    "enter": ("tt", enter_told),
    "leave": ("tt", leave_told),
    "take": ("ttn", take_told),
    "answer": ("tnn", answer_told),
    "back": ("tnn", back_told),
    "pass": ("n", pass_told),
    "now": ("", now_told),
    "attach": ("tn", attach_told),
    "look": ("tn", look_told),
    "advance": ("tn", advance_told),
    "detach": ("t", detach_told),
    "draw": ("n", draw_told),
    "cut": ("nn", cut_told),
    "read": ("nnny", read_told),
    "front": ("n", front_told),
    "floor": ("n", floor_told),
    "drawn": ("n", drawn_told),
    "mark": ("tn", mark_told),
    "owner": ("tn", owner_told),
    "asides": ("tn", asides_told),
    "takers": ("t", takers_told),
    "written": ("", written_told),
    "tale": ("nn", tale_told),
    "stands": ("n", stands_told),
}


def forms_of(name, many):
    if name == "up":
        return "t" * many
    if name == "cellar":
        # A last shelf of fewer than three texts gets no forms, and is refused like any other number of texts.
        return "tnt" * (many // 3)
    if name not in REQUESTS:
        raise BadWord()
    return REQUESTS[name][0]


def thing_in(form, text):
    if form == "n":
        return number_in(text)
    if form == "w":
        return asked_word(text)
    if form == "y":
        return truth_in(text)
    return text


def things_in(name, texts):
    forms = forms_of(name, len(texts))
    if len(forms) != len(texts):
        raise BadWord()
    return [thing_in(form, text) for form, text in zip(forms, texts)]


def shelves_of(things):
    return [(things[k], things[k + 1], things[k + 2]) for k in range(0, len(things), 3)]


def refused(name, fields):
    texts = ["no", name]
    for field in fields:
        texts.append("" if field is None else str(field))
    return joined(texts)


class Desk:
    def __init__(self):
        self.cellar = None

    def told(self, text):
        texts = parted(text)
        name = texts[0]
        things = things_in(name, texts[1:])
        if name == "cellar":
            self.cellar = Cellar(shelves_of(things))
            return []
        if name == "up":
            up = come_up(things)
            self.cellar = up[0]
            return numbers([up[1]])
        if self.cellar is None:
            raise NoSuch("cellar")
        tell = REQUESTS[name][1]
        return tell(self.cellar, things)

    def say(self, text):
        try:
            return joined(["ok"] + self.told(text))
        except BadWord:
            return refused("BadWord", [])
        except NoSuch as e:
            return refused("NoSuch", [e.name])
        except Doubled as e:
            return refused("Doubled", [e.name])
        except Broken as e:
            return refused("Broken", [e.line])
        except Fenced as e:
            return refused("Fenced", [e.life])
        except Gap as e:
            return refused("Gap", [e.due])
        except TooOld as e:
            return refused("TooOld", [e.number])
        except Late as e:
            return refused("Late", [e.row, e.loan])
        except NotYours as e:
            return refused("NotYours", [e.row, e.owner])
        except Twice as e:
            return refused("Twice", [e.row, e.loan])
        except Busy as e:
            return refused("Busy", [e.deed])
        except NoDeed as e:
            return refused("NoDeed", [e.name])
        except WrongKind as e:
            return refused("WrongKind", [e.row])
        except Needed as e:
            return refused("Needed", [e.row, e.place])
        except Gone as e:
            return refused("Gone", [e.row, e.place])
        except Beyond as e:
            return refused("Beyond", [e.row, e.place])
